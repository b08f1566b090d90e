import Derived.Test.YtabjghmfjoefpaaDoorZr7
set_option linter.unusedVariables false
namespace Go.Proofs.YtabjghmfjoefpaaDoor
open Go.RowKit

/-! ### terms have one text just if they are the same -/
namespace Tx
def capB (c : UInt8) : Bool := decide (65 ≤ c) && decide (c ≤ 90)
/-- which kind of term a text is, by its first two bytes -/
def kindL (l : List UInt8) : Nat :=
  let c := l.headD 0
  let d := l.tail.headD 0
  if capB c then 1
  else if digitB c then 2
  else if c == 45 then (if d == 40 then 4 else 2)
  else if c == 40 then 3
  else if c == 91 then (if d == 93 then 5 else 6)
  else 7
/-- which kind of term a term is -/
def kindT (c : Cel) : Nat :=
  if c.k = 1 then 1 else if c.k = 2 then 2 else if infixB c then 3 else if isC c [45] 1 then 4 else if isC c [91, 93] 0 then 5 else if isC c [46] 2 then 6 else 7
theorem kind_small : ∀ c : UInt8, smallB c = true → ∀ l, kindL (c :: l) = 7 := by
  intro c hc l
  have h : ∀ c : UInt8, (!smallB c || (!capB c && !digitB c && !(c == 45) && !(c == 40) && !(c == 91))) = true := all_u8 (p := fun c => !smallB c || (!capB c && !digitB c && !(c == 45) && !(c == 40) && !(c == 91))) (by decide +kernel)
  have := h c
  rw [hc] at this
  simp only [Bool.not_true, Bool.false_or, Bool.and_eq_true, Bool.not_eq_true'] at this
  obtain ⟨⟨⟨⟨h1, h2⟩, h3⟩, h4⟩, h5⟩ := this
  simp [kindL, h1, h2, h3, h4, h5]
theorem kind_digit : ∀ c : UInt8, digitB c = true → ∀ l, kindL (c :: l) = 2 := by
  intro c hc l
  have h : ∀ c : UInt8, (!digitB c || (!capB c)) = true := all_u8 (p := fun c => !digitB c || (!capB c)) (by decide +kernel)
  have := h c
  rw [hc] at this
  simp only [Bool.not_true, Bool.false_or, Bool.not_eq_true'] at this
  simp [kindL, this, hc]
theorem digit_not40 : ∀ c : UInt8, digitB c = true → (c == 40) = false := by
  intro c hc
  have h : ∀ c : UInt8, (!digitB c || !(c == 40)) = true := all_u8 (p := fun c => !digitB c || !(c == 40)) (by decide +kernel)
  have := h c
  rw [hc] at this
  simpa using this
/-- a text begins with a byte that closes nothing -/
theorem kind_textT (t : Tm) : ∀ r : List UInt8, t.ok → kindL (textT t ++ r) = kindT t.hd ∧ ∃ d l, textT t = d :: l ∧ d ≠ 93 := by
  induction t using tm_len with
  | H t ih =>
  obtain ⟨c, ts⟩ := t
  rintro r ⟨h1, h2, h3⟩
  show _ = kindT c ∧ _
  rcases cell_kind h1 with ⟨hk, k1, k2⟩ | ⟨hk, k1, k2⟩ | ⟨hk, hs, k1, k2⟩
  · rw [text_var hk, kindT, if_pos hk]
    have hb : ∀ m, m < 26 → (65 : UInt8) ≤ UInt8.ofNat (65 + m) ∧ UInt8.ofNat (65 + m) ≤ 90 ∧ UInt8.ofNat (65 + m) ≠ 93 := fun m hm =>
      (by decide : ∀ i : Fin 26, (65 : UInt8) ≤ UInt8.ofNat (65 + i.val) ∧ UInt8.ofNat (65 + i.val) ≤ 90 ∧ UInt8.ofNat (65 + i.val) ≠ 93) ⟨m, hm⟩
    obtain ⟨b1, b2, b3⟩ := hb (c.n.toNat % 26) (Nat.mod_lt _ (by omega))
    refine ⟨?_, _, _, rfl, b3⟩
    rw [varL]
    have bc : capB (UInt8.ofNat (65 + c.n.toNat % 26)) = true := by rw [capB, decide_eq_true b1, decide_eq_true b2]; rfl
    generalize UInt8.ofNat (65 + c.n.toNat % 26) = d at bc
    simp [kindL, bc]
  · have hkt : kindT c = 2 := by rw [kindT, if_neg (by omega), if_pos hk]
    rw [text_int hk, hkt]
    unfold Lib.itoa
    split
    · obtain ⟨d, l, e, hd⟩ := dec_head c.n.natAbs
      refine ⟨?_, _, _, rfl, by decide⟩
      rw [e]
      have := digit_not40 d hd
      simp [kindL, this]
      decide
    · obtain ⟨d, l, e, hd⟩ := dec_head c.n.toNat
      rw [e]
      refine ⟨kind_digit d hd _, _, _, rfl, ?_⟩
      rintro rfl; revert hd; decide
  · cases hi : infixB c with
    | true =>
      have hkt : kindT c = 3 := by rw [kindT, if_neg (by omega), if_neg (by omega), if_pos hi]
      rw [text_infix hk hi, hkt]
      exact ⟨rfl, _, _, rfl, by decide⟩
    | false =>
      cases hm : isC c [45] 1 with
      | true =>
        have hkt : kindT c = 4 := by rw [kindT, if_neg (by omega), if_neg (by omega), if_neg (by rw [hi]; decide), if_pos hm]
        rw [text_minus hk hi hm, hkt]
        exact ⟨rfl, _, _, rfl, by decide⟩
      | false =>
        cases hn : isC c [91, 93] 0 with
        | true =>
          have hkt : kindT c = 5 := by rw [kindT, if_neg (by omega), if_neg (by omega), if_neg (by rw [hi]; decide), if_neg (by rw [hm]; decide), if_pos hn]
          rw [text_nil hk hi hm hn, hkt]
          exact ⟨rfl, _, _, rfl, by decide⟩
        | false =>
          cases hd : isC c [46] 2 with
          | true =>
            have hkt : kindT c = 6 := by rw [kindT, if_neg (by omega), if_neg (by omega), if_neg (by rw [hi]; decide), if_neg (by rw [hm]; decide), if_neg (by rw [hn]; decide), if_pos hd]
            rw [text_list hk hi hm hn hd, hkt]
            refine ⟨?_, _, _, rfl, by decide⟩
            obtain ⟨x, y, rfl, hx, hy⟩ := ok_two (c := c) (ts := ts) ⟨h1, h2, h3⟩ hd
            obtain ⟨-, d, l, e, hd93⟩ := ih x (by simp [Tm.args]) [] hx
            rw [item_two, e]
            have : (d == 93) = false := by simpa using hd93
            simp [kindL, this]
            decide
          | false =>
            have hkt : kindT c = 7 := by rw [kindT, if_neg (by omega), if_neg (by omega), if_neg (by rw [hi]; decide), if_neg (by rw [hm]; decide), if_neg (by rw [hn]; decide), if_neg (by rw [hd]; decide)]
            rw [text_plain hk hi hm hn hd, hkt]
            unfold nameL
            split
            · next hb =>
              obtain ⟨d, l, e, hs⟩ := bare_head hb
              rw [e]
              refine ⟨kind_small d hs _, _, _, rfl, ?_⟩
              rintro rfl; revert hs; decide
            · exact ⟨rfl, _, _, rfl, by decide⟩
theorem kind_text {c : Cel} {ts : List Tm} (h : (Tm.mk c ts).ok) (r : List UInt8) : kindL (textT (.mk c ts) ++ r) = kindT c := (kind_textT (.mk c ts) r h).1
end Tx
end Go.Proofs.YtabjghmfjoefpaaDoor
set_option linter.unusedVariables false
namespace Go.Proofs.YtabjghmfjoefpaaDoor
open Go.RowKit
namespace Tx
/-- the arguments behind the first one, each with its comma -/
def tlL : List Tm → List UInt8
  | [] => []
  | t :: ts => 44 :: (textT t ++ tlL ts)
theorem sep_tl (t : Tm) (ts : List Tm) : sepL [44] (textsT (t :: ts)) = textT t ++ tlL ts := by
  simp only [textsT, List.map_cons, sepL]
  congr 1
  induction ts with
  | nil => rfl
  | cons u ts ih =>
    simp only [List.map_cons, List.flatten_cons, tlL, List.cons_append, List.nil_append] at ih ⊢
    rw [ih]
theorem dl_tl (ts : List Tm) (r : List UInt8) : Dl (tlL ts ++ 41 :: r) := by
  cases ts with
  | nil => exact Dl.cons (by decide)
  | cons t ts => exact Dl.cons (by decide)
/-- what is asked of a term's text -/
def PT (t : Tm) : Prop := ∀ u r s, u.ok → Dl r → Dl s → textT t ++ r = textT u ++ s → t = u ∧ r = s
def QT (t : Tm) : Prop := ∀ u r s, u.ok → behT t ++ r = behT u ++ s → t = u ∧ r = s
theorem tl_inj : ∀ (ts us : List Tm) (r s : List UInt8), (∀ t ∈ ts, PT t) → oks us → tlL ts ++ 41 :: r = tlL us ++ 41 :: s → ts = us ∧ r = s
  | [], [], r, s, _, _, h => by simpa [tlL] using h
  | [], u :: us, r, s, _, _, h => by simp [tlL] at h
  | t :: ts, [], r, s, _, _, h => by simp [tlL] at h
  | t :: ts, u :: us, r, s, hp, ho, h => by
    simp only [tlL, List.cons_append, List.cons.injEq, true_and, List.append_assoc] at h
    obtain ⟨rfl, e⟩ := hp t List.mem_cons_self u _ _ ho.1 (dl_tl _ _) (dl_tl _ _) h
    obtain ⟨rfl, e2⟩ := tl_inj ts us r s (fun x hx => hp x (List.mem_cons_of_mem _ hx)) ho.2 e
    exact ⟨rfl, e2⟩
theorem beh_dl (t : Tm) (r : List UInt8) : Dl (behT t ++ r) := by
  obtain ⟨c, ts⟩ := t
  cases hd : isC c [46] 2 with
  | true => rw [beh_list hd]; exact Dl.cons (by decide)
  | false =>
    cases hn : isC c [91, 93] 0 with
    | true => rw [beh_nil hd hn]; exact Dl.cons (by decide)
    | false => rw [beh_bar hd hn]; exact Dl.cons (by decide)
theorem isC_eq {c d : Cel} {s : List UInt8} {n : Int} (h : isC c s n = true) (h' : isC d s n = true) : c = d := by
  simp only [isC, Bool.and_eq_true, decide_eq_true_eq] at h h'
  rw [Cel.eq_iff]
  refine ⟨by omega, ?_, by omega⟩
  rw [bytes_of h.1.2, bytes_of h'.1.2]
theorem noname {c : Cel} (h : cellOk c = true) (hk : c.k = 1 ∨ c.k = 2) : c.s = ⟨#[]⟩ := by
  simp only [cellOk, Bool.or_eq_true, Bool.and_eq_true, decide_eq_true_eq] at h
  have : c.s.toList = [] := by
    rcases h with (h | h) | h
    · exact h.1.1.2
    · exact h.1.1.2
    · omega
  rw [ByteArray.toList_eq] at this
  exact bytes_of this
theorem okname {c : Cel} (h : cellOk c = true) (hk : c.k = 3) : ∀ b ∈ c.s.data.toList, okByte b = true := by
  simp only [cellOk, Bool.or_eq_true, Bool.and_eq_true, decide_eq_true_eq, nameOk] at h
  rcases h with (h | h) | h
  · omega
  · omega
  · exact List.all_eq_true.1 h.1.1.2.1.1
theorem kind3 {c : Cel} {k : Nat} (h : kindT c = k) (hk : 3 ≤ k) (hc : cellOk c = true) : c.k = 3 := by
  rcases cell_kind hc with ⟨e, _⟩ | ⟨e, _⟩ | ⟨e, _⟩
  · rw [kindT, if_pos e] at h; omega
  · rw [kindT, if_neg (by omega), if_pos e] at h; omega
  · exact e
theorem kind_facts {c : Cel} (hk : c.k = 3) : (kindT c = 3 ∧ infixB c = true) ∨ (kindT c = 4 ∧ infixB c = false ∧ isC c [45] 1 = true) ∨ (kindT c = 5 ∧ infixB c = false ∧ isC c [45] 1 = false ∧ isC c [91, 93] 0 = true) ∨ (kindT c = 6 ∧ infixB c = false ∧ isC c [45] 1 = false ∧ isC c [91, 93] 0 = false ∧ isC c [46] 2 = true) ∨ (kindT c = 7 ∧ infixB c = false ∧ isC c [45] 1 = false ∧ isC c [91, 93] 0 = false ∧ isC c [46] 2 = false) := by
  cases hi : infixB c with
  | true => left; exact ⟨by rw [kindT, if_neg (by omega), if_neg (by omega), if_pos hi], rfl⟩
  | false =>
    right
    cases hm : isC c [45] 1 with
    | true => left; exact ⟨by rw [kindT, if_neg (by omega), if_neg (by omega), if_neg (by rw [hi]; decide), if_pos hm], rfl, rfl⟩
    | false =>
      right
      cases hn : isC c [91, 93] 0 with
      | true => left; exact ⟨by rw [kindT, if_neg (by omega), if_neg (by omega), if_neg (by rw [hi]; decide), if_neg (by rw [hm]; decide), if_pos hn], rfl, rfl, rfl⟩
      | false =>
        right
        cases hd : isC c [46] 2 with
        | true => left; exact ⟨by rw [kindT, if_neg (by omega), if_neg (by omega), if_neg (by rw [hi]; decide), if_neg (by rw [hm]; decide), if_neg (by rw [hn]; decide), if_pos hd], rfl, rfl, rfl, rfl⟩
        | false => right; exact ⟨by rw [kindT, if_neg (by omega), if_neg (by omega), if_neg (by rw [hi]; decide), if_neg (by rw [hm]; decide), if_neg (by rw [hn]; decide), if_neg (by rw [hd]; decide)], rfl, rfl, rfl, rfl⟩
theorem args_two {c : Cel} {ts : List Tm} (h : (Tm.mk c ts).ok) (hk : c.k = 3) (hn : c.n = 2) : ∃ x y, ts = [x, y] := by
  have : ts.length = 2 := by rw [h.2.1, ar, if_pos hk, hn]; rfl
  match ts, this with
  | [x, y], _ => exact ⟨x, y, rfl⟩
theorem args_one {c : Cel} {ts : List Tm} (h : (Tm.mk c ts).ok) (hk : c.k = 3) (hn : c.n = 1) : ∃ x, ts = [x] := by
  have : ts.length = 1 := by rw [h.2.1, ar, if_pos hk, hn]; rfl
  match ts, this with
  | [x], _ => exact ⟨x, rfl⟩
theorem args_none {c : Cel} {ts : List Tm} (h : (Tm.mk c ts).ok) (hn : ar c = 0) : ts = [] := List.eq_nil_of_length_eq_zero (by rw [h.2.1, hn])
theorem infix_facts {c : Cel} (h : infixB c = true) : (∃ b : UInt8, c.s.data.toList = [b] ∧ b ≠ 32) ∧ c.n = 2 := by
  simp only [infixB, Bool.and_eq_true, decide_eq_true_eq, signs, List.contains_cons, List.contains_nil, Bool.or_false, Bool.or_eq_true, beq_iff_eq] at h
  refine ⟨?_, h.2⟩
  rcases h.1 with e | e | e | e | e <;> exact ⟨_, e, by decide⟩
theorem text_inj (t : Tm) (ht : t.ok) : PT t ∧ QT t := by
  induction t using tm_len with
  | H t ih =>
  obtain ⟨c, ts⟩ := t
  obtain ⟨h1, h2, h3⟩ := ht
  have ht : (Tm.mk c ts).ok := ⟨h1, h2, h3⟩
  have IH : ∀ u ∈ ts, PT u ∧ QT u := fun u hu => ih u hu (oks_mem h3 u hu)
  have hP : PT (.mk c ts) := by
    intro u r s hu hr hs h
    obtain ⟨d, us⟩ := u
    obtain ⟨g1, g2, g3⟩ := hu
    have hu : (Tm.mk d us).ok := ⟨g1, g2, g3⟩
    have hkk : kindT c = kindT d := by rw [← kind_text ht r, ← kind_text hu s, h]
    rcases cell_kind h1 with ⟨hk, k1, k2⟩ | ⟨hk, k1, k2⟩ | ⟨hk, hsz, k1, k2⟩
    · have hd : d.k = 1 := by
        rcases cell_kind g1 with ⟨e, _⟩ | ⟨e, _⟩ | ⟨e, _⟩
        · exact e
        · rw [kindT, if_pos hk, kindT, if_neg (by omega), if_pos e] at hkk; omega
        · rw [kindT, if_pos hk] at hkk
          rcases kind_facts e with q | q | q | q | q <;> omega
      rw [text_var hk, text_var hd] at h
      obtain ⟨e1, e2⟩ := var_inj hr hs h
      have q1 : d.n.toNat = c.n.toNat := e1.symm
      have hdn : 0 ≤ d.n := by rcases cell_kind g1 with ⟨_, q, _⟩ | ⟨e, _⟩ | ⟨e, _⟩ <;> omega
      have e3 : c = d := by rw [Cel.eq_iff]; exact ⟨by omega, by rw [noname h1 (.inl hk), noname g1 (.inl hd)], by omega⟩
      subst e3
      rw [args_none ht (by rw [ar, if_neg (by omega)]), args_none hu (by rw [ar, if_neg (by omega)])]
      exact ⟨rfl, e2⟩
    · have hd : d.k = 2 := by
        rcases cell_kind g1 with ⟨e, _⟩ | ⟨e, _⟩ | ⟨e, _⟩
        · rw [kindT, if_neg (by omega), if_pos hk, kindT, if_pos e] at hkk; omega
        · exact e
        · rw [kindT, if_neg (by omega), if_pos hk] at hkk
          rcases kind_facts e with q | q | q | q | q <;> omega
      rw [text_int hk, text_int hd] at h
      obtain ⟨e1, e2⟩ := int_inj hr hs h
      have e3 : c = d := by rw [Cel.eq_iff]; exact ⟨by omega, by rw [noname h1 (.inr hk), noname g1 (.inr hd)], e1⟩
      subst e3
      rw [args_none ht (by rw [ar, if_neg (by omega)]), args_none hu (by rw [ar, if_neg (by omega)])]
      exact ⟨rfl, e2⟩
    · have hd : d.k = 3 := by
        rcases kind_facts hk with q | q | q | q | q <;> exact kind3 (hkk.symm.trans q.1) (by omega) g1
      rcases kind_facts hk with ⟨q0, hi⟩ | ⟨q0, hi, hm⟩ | ⟨q0, hi, hm, hn⟩ | ⟨q0, hi, hm, hn, hdt⟩ | ⟨q0, hi, hm, hn, hdt⟩
      · -- an operator between two
        have hi' : infixB d = true := by rcases kind_facts hd with ⟨e, q⟩ | ⟨e, _⟩ | ⟨e, _⟩ | ⟨e, _⟩ | ⟨e, _⟩ <;> first | exact q | omega
        obtain ⟨⟨b, hb, hb2⟩, hn2⟩ := infix_facts hi
        obtain ⟨⟨b', hb', hb2'⟩, hn2'⟩ := infix_facts hi'
        obtain ⟨x, y, rfl⟩ := args_two ht hk hn2
        obtain ⟨x', y', rfl⟩ := args_two hu hd hn2'
        rw [text_infix hk hi, text_infix hd hi', hb, hb'] at h
        simp only [textsT, List.map_cons, List.map_nil, sepL, List.flatten_cons, List.flatten_nil, List.append_nil, List.cons_append, List.append_assoc, List.nil_append, List.cons.injEq, true_and] at h
        obtain ⟨rfl, e⟩ := (IH x (by simp)).1 x' _ _ g3.1 (Dl.cons (by decide)) (Dl.cons (by decide)) h
        simp only [List.cons.injEq, true_and] at e
        obtain ⟨rfl, e5⟩ := e
        obtain ⟨rfl, e⟩ := (IH y (by simp)).1 y' _ _ g3.2.1 (Dl.cons (by decide)) (Dl.cons (by decide)) e5
        simp only [List.cons.injEq, true_and] at e
        have e3 : c = d := by rw [Cel.eq_iff]; exact ⟨by omega, by rw [bytes_of hb, bytes_of hb'], by omega⟩
        subst e3
        exact ⟨rfl, e⟩
      · have hm' : infixB d = false ∧ isC d [45] 1 = true := by rcases kind_facts hd with ⟨e, q⟩ | ⟨e, q⟩ | ⟨e, _⟩ | ⟨e, _⟩ | ⟨e, _⟩ <;> first | exact q | omega
        have e3 := isC_eq hm hm'.2
        subst e3
        simp only [isC, Bool.and_eq_true, decide_eq_true_eq] at hm
        obtain ⟨x, rfl⟩ := args_one ht hk hm.2
        obtain ⟨x', rfl⟩ := args_one hu hd hm.2
        rw [text_minus hk hi hm'.2, text_minus hd hi hm'.2] at h
        simp only [textsT, List.map_cons, List.map_nil, sepL, List.flatten_nil, List.append_nil, List.cons_append, List.append_assoc, List.nil_append, List.cons.injEq, true_and] at h
        obtain ⟨rfl, e⟩ := (IH x (by simp)).1 x' _ _ g3.1 (Dl.cons (by decide)) (Dl.cons (by decide)) h
        simp only [List.cons.injEq, true_and] at e
        exact ⟨rfl, e⟩
      · have hm' : infixB d = false ∧ isC d [45] 1 = false ∧ isC d [91, 93] 0 = true := by rcases kind_facts hd with ⟨e, q⟩ | ⟨e, q⟩ | ⟨e, q⟩ | ⟨e, _⟩ | ⟨e, _⟩ <;> first | exact q | omega
        have e3 := isC_eq hn hm'.2.2
        subst e3
        have ha : ar c = 0 := by simp only [isC, Bool.and_eq_true, decide_eq_true_eq] at hn; rw [ar, if_pos hk, hn.2]; rfl
        rw [text_nil hk hi hm hn, text_nil hd hi hm hn] at h
        rw [args_none ht ha, args_none hu ha]
        exact ⟨rfl, List.append_cancel_left h⟩
      · have hm' : infixB d = false ∧ isC d [45] 1 = false ∧ isC d [91, 93] 0 = false ∧ isC d [46] 2 = true := by rcases kind_facts hd with ⟨e, q⟩ | ⟨e, q⟩ | ⟨e, q⟩ | ⟨e, q⟩ | ⟨e, _⟩ <;> first | exact q | omega
        have e3 := isC_eq hdt hm'.2.2.2
        subst e3
        obtain ⟨x, y, rfl, _⟩ := ok_two ht hdt
        obtain ⟨x', y', rfl, _⟩ := ok_two hu hdt
        rw [text_list hk hi hm hn hdt, text_list hd hi hm hn hdt, item_two, item_two] at h
        simp only [List.cons_append, List.append_assoc, List.cons.injEq, true_and] at h
        obtain ⟨rfl, e⟩ := (IH x (by simp)).1 x' _ _ g3.1 (beh_dl _ _) (beh_dl _ _) h
        obtain ⟨rfl, e2⟩ := (IH y (by simp)).2 y' _ _ g3.2.1 e
        exact ⟨rfl, e2⟩
      · have hm' : infixB d = false ∧ isC d [45] 1 = false ∧ isC d [91, 93] 0 = false ∧ isC d [46] 2 = false := by rcases kind_facts hd with ⟨e, q⟩ | ⟨e, q⟩ | ⟨e, q⟩ | ⟨e, q⟩ | ⟨e, q⟩ <;> first | exact q | omega
        rw [text_plain hk hi hm hn hdt, text_plain hd hm'.1 hm'.2.1 hm'.2.2.1 hm'.2.2.2, List.append_assoc, List.append_assoc] at h
        have hdl : ∀ (n : Int) (l r : List UInt8), Dl r → ∀ c r', (if 0 < n then 40 :: (l ++ [41]) else []) ++ r = c :: r' → c = 40 ∨ c ∈ ([41, 44, 93, 124, 32, 46] : List UInt8) := fun n l r hr c r' e => by
          split at e
          · simp only [List.cons_append, List.cons.injEq] at e; exact .inl e.1.symm
          · exact .inr (hr c r' e)
        obtain ⟨e1, e2⟩ := name_inj (okname h1 hk) (okname g1 hd) (hdl _ _ _ hr) (hdl _ _ _ hs) h
        have hs3 : c.s = d.s := by rw [bytes_of e1]
        have hdn : 0 ≤ d.n := by rcases cell_kind g1 with ⟨e, _⟩ | ⟨e, _⟩ | ⟨_, _, q, _⟩ <;> omega
        have no40 : ∀ {r l : List UInt8}, Dl r → r ≠ 40 :: l := fun hr e => by have := hr 40 _ e; revert this; decide
        have hac : ts.length = c.n.toNat := by rw [h2, ar, if_pos hk]
        have had : us.length = d.n.toNat := by rw [g2, ar, if_pos hd]
        by_cases hc0 : 0 < c.n
        · by_cases hd0 : 0 < d.n
          · rw [if_pos hc0, if_pos hd0] at e2
            obtain ⟨t0, tr, rfl⟩ : ∃ t0 tr, ts = t0 :: tr := by cases ts with
              | nil => simp at hac; omega
              | cons a b => exact ⟨a, b, rfl⟩
            obtain ⟨u0, ur, rfl⟩ : ∃ t0 tr, us = t0 :: tr := by cases us with
              | nil => simp at had; omega
              | cons a b => exact ⟨a, b, rfl⟩
            rw [sep_tl, sep_tl] at e2
            simp only [List.cons_append, List.append_assoc, List.nil_append, List.cons.injEq, true_and] at e2
            obtain ⟨rfl, e⟩ := (IH t0 (by simp)).1 u0 _ _ g3.1 (dl_tl _ _) (dl_tl _ _) e2
            obtain ⟨rfl, e3'⟩ := tl_inj tr ur r s (fun x hx => (IH x (by simp [hx])).1) g3.2 e
            have e3 : c = d := by rw [Cel.eq_iff]; exact ⟨by omega, hs3, by simp at hac had; omega⟩
            subst e3
            exact ⟨rfl, e3'⟩
          · rw [if_pos hc0, if_neg hd0] at e2
            exact absurd e2.symm (no40 hs)
        · by_cases hd0 : 0 < d.n
          · rw [if_neg hc0, if_pos hd0] at e2
            exact absurd e2 (no40 hr)
          · rw [if_neg hc0, if_neg hd0] at e2
            have e3 : c = d := by rw [Cel.eq_iff]; exact ⟨by omega, hs3, by omega⟩
            subst e3
            rw [List.eq_nil_of_length_eq_zero (by omega : ts.length = 0), List.eq_nil_of_length_eq_zero (by omega : us.length = 0)]
            exact ⟨rfl, e2⟩
  refine ⟨hP, ?_⟩
  intro u r s hu h
  obtain ⟨d, us⟩ := u
  cases hd : isC c [46] 2 with
  | true =>
    rw [beh_list hd] at h
    cases hd' : isC d [46] 2 with
    | true =>
      rw [beh_list hd'] at h
      have e3 := isC_eq hd hd'
      subst e3
      obtain ⟨x, y, rfl, _⟩ := ok_two ht hd
      obtain ⟨x', y', rfl, ox, oy⟩ := ok_two hu hd
      rw [item_two, item_two] at h
      simp only [List.cons_append, List.append_assoc, List.cons.injEq, true_and] at h
      obtain ⟨rfl, e⟩ := (IH x (by simp)).1 x' _ _ ox (beh_dl _ _) (beh_dl _ _) h
      obtain ⟨rfl, e2⟩ := (IH y (by simp)).2 y' _ _ oy e
      exact ⟨rfl, e2⟩
    | false =>
      cases hn' : isC d [91, 93] 0 with
      | true => rw [beh_nil hd' hn'] at h; simp at h
      | false => rw [beh_bar hd' hn'] at h; simp at h
  | false =>
    cases hn : isC c [91, 93] 0 with
    | true =>
      rw [beh_nil hd hn] at h
      cases hd' : isC d [46] 2 with
      | true => rw [beh_list hd'] at h; simp at h
      | false =>
        cases hn' : isC d [91, 93] 0 with
        | true =>
          rw [beh_nil hd' hn'] at h
          have e3 := isC_eq hn hn'
          subst e3
          have ha : ar c = 0 := by simp only [isC, Bool.and_eq_true, decide_eq_true_eq] at hn; rw [ar, if_pos hn.1.1, hn.2]; rfl
          rw [args_none ht ha, args_none hu ha]
          exact ⟨rfl, by simpa using h⟩
        | false => rw [beh_bar hd' hn'] at h; simp at h
    | false =>
      rw [beh_bar hd hn] at h
      cases hd' : isC d [46] 2 with
      | true => rw [beh_list hd'] at h; simp at h
      | false =>
        cases hn' : isC d [91, 93] 0 with
        | true => rw [beh_nil hd' hn'] at h; simp at h
        | false =>
          rw [beh_bar hd' hn'] at h
          simp only [List.cons_append, List.append_assoc, List.nil_append, List.cons.injEq, true_and] at h
          obtain ⟨e1, e2⟩ := hP (.mk d us) _ _ hu (Dl.cons (by decide)) (Dl.cons (by decide)) h
          simp only [List.cons.injEq, true_and] at e2
          exact ⟨e1, e2⟩
/-- terms have one text just if they are the same -/
theorem text_same {t u : Tm} (ht : t.ok) (hu : u.ok) : textT t = textT u ↔ t = u :=
  ⟨fun h => ((text_inj t ht).1 u [] [] hu Dl.nil Dl.nil (by rw [h])).1, fun h => by rw [h]⟩
end Tx
end Go.Proofs.YtabjghmfjoefpaaDoor
set_option linter.unusedVariables false
namespace Go.Proofs.YtabjghmfjoefpaaDoor
open Go.RowKit
open Md

theorem rName_any (s : ByteArray) (w : World) :
    Calls Tryd.prog 15 #[.string s] w fun e w' => e = .returned (.string (tx (nameMade s.data.toList))) ∧ Below w.heap.size w w' := by
  go_enter Tryd.func15, Tryd.ntmps15
  go_wp2_with fail
  refine (rname_any s w).mono ?_
  rintro e w1 ⟨rfl, hb1⟩
  have HB := mkHid hb1
  clear hb1
  go_wp2_with fail
  go_ret
  exact ⟨rfl, HB.out⟩
theorem Md.ClT.ok {c : Ct} (h : ClT c) : c.ok := ⟨h.h.ok, Nat.le_trans h.h.len (by omega), fun t ht => (h.b t ht).ok, fun t ht => Nat.le_trans (h.b t ht).len (by omega)⟩
theorem flatten_le {L : List (List UInt8)} {m : Nat} (h : ∀ x ∈ L, x.length ≤ m) : L.flatten.length ≤ L.length * m := by
  induction L with
  | nil => simp
  | cons x L ih =>
    have h1 := h x List.mem_cons_self
    have h2 := ih fun y hy => h y (List.mem_cons_of_mem _ hy)
    simp only [List.flatten_cons, List.length_append, List.length_cons, Nat.succ_mul]
    omega
theorem atom_text {t : Tm} (h : AtomT 12 t) : (textT t).length ≤ 480 := by have := (text_len t h.ok).1; have := h.len; omega
theorem Md.ClT.len {c : Ct} (h : ClT c) : c.text.length ≤ 4000 := by
  have h1 := atom_text h.h
  have h2 := sepL_len [44, 32] (litsT c.b)
  have h3 : ((litsT c.b).map List.length).sum ≤ c.b.length * 483 := by
    rw [← List.length_flatten]
    have := flatten_le (L := litsT c.b) (m := 483) (fun x hx => by
      obtain ⟨t, ht, rfl⟩ := List.mem_map.1 hx
      have := atom_text (h.b t ht)
      unfold litT; split <;> simp <;> omega)
    simpa [litsT] using this
  have h4 := h.four
  have h5 : (litsT c.b).length = c.b.length := by simp [litsT]
  rw [h5] at h2
  rw [Ct.text, clauseT]
  split <;> simp at h2 ⊢ <;> omega
theorem prog_len {cs : List Ct} (h : ∀ c ∈ cs, ClT c) : (progT cs).length ≤ cs.length * 4001 := by
  have := flatten_le (L := cs.map fun c => c.text ++ [10]) (m := 4001) (fun x hx => by
    obtain ⟨c, hc, rfl⟩ := List.mem_map.1 hx
    have := (h c hc).len
    simp; omega)
  simpa [progT] using this
theorem made6 (a : Option Addr) (cap : Nat) (w : World) (xs : List Cel) (hx : Row w a cap xs) (most : Nat) (hm1 : 1 ≤ most) (hm2 : most ≤ 200) :
    Calls Tryd.prog 11 #[.slice a xs.length cap, .int .i64 most] w fun e w' => ∃ a' cap' t, e = .returned (.slice a' (Tm.flat t).length cap') ∧ Row w' a' cap' t.flat ∧ t.ok ∧ t.flat.length ≤ most ∧ Below w.heap.size w w' :=
  (made_where a cap w xs hx most hm1 hm2).mono fun e w' ⟨a', cap', ys, h1, h2, h3, h4, h5⟩ => by
    obtain ⟨t, ht, rfl, _⟩ := right_tm h3
    exact ⟨a', cap', t, h1, h2.row hx h5, ht, h4, h5⟩
end Go.Proofs.YtabjghmfjoefpaaDoor
set_option linter.unusedVariables false
namespace Go.Proofs.YtabjghmfjoefpaaDoor
open Go.RowKit
open Md
set_option maxRecDepth 100000 in
set_option maxHeartbeats 16000000 in
theorem lawPTells_any (w : World) (hp : Pow w) (xs : List Cel) (a : Option Addr) (cap : Nat) (hx : Row w a cap xs) (l : List Cl) (b0 : Option Addr) (capl : Nat) (hl : Row w b0 capl l) (s : ByteArray) (n : Nat) (hn : n < 65536) :
    Calls Tryd.prog 3 #[.slice a xs.length cap, .slice b0 l.length capl, .agg #[.string s, .int .u16 (n : Int)]] w fun e w' => e = .returned (.bool true) ∧ Below w.heap.size w w' := by
  have HX := mkHid hx
  have HL := mkHid hl
  have HP := mkHid hp
  have hbx : Below w.heap.size w (w.alloc (.cells #[.string s, .int .u16 (n : Int)] 26)) := (Below.refl _ _).new _
  have x0 : (w.alloc (.cells #[.string s, .int .u16 (n : Int)] 26)).cell? ⟨w.heap.size, 0, none⟩ = some (.string s) := World.cell?_alloc_at _ _ _ 0 rfl
  have x1 : (w.alloc (.cells #[.string s, .int .u16 (n : Int)] 26)).cell? ⟨w.heap.size, 1, none⟩ = some (.int .u16 (n : Int)) := World.cell?_alloc_at _ _ _ 1 rfl
  clear hx hl hp
  go_enter Tryd.func3, Tryd.ntmps3
  go_wp2_with fail
  refine (head6_any _ (Hp.pow_then HP.out hbx)).mono ?_
  generalize w.alloc (.cells #[.string s, .int .u16 (n : Int)] 26) = w0 at *
  rintro e w1 ⟨rfl, hb1⟩
  have hb := hbx.then hb1
  have hbn := hb1
  go_wp2_with fail
  have hmd := made6 a cap w1 xs (HX.out.below hb) 60 (by omega) (by omega)
  rw [show ((60 : Nat) : Int) = 60 from rfl] at hmd
  refine hmd.mono ?_
  clear hmd
  rintro e w2 ⟨at2, ct2, t, rfl, hrt, hto, htl, hb2⟩
  have hb := hb.then hb2
  have hbn := hbn.then hb2
  go_wp2_with fail
  have hcl := rClauses_any l b0 capl w2 (HL.out.below hb) 6 (by omega)
  rw [show ((6 : Nat) : Int) = 6 from rfl] at hcl
  refine hcl.mono ?_
  clear hcl
  rintro e w3 ⟨ac, cc, cs, rfl, hrc, hcs, hcn, hb3⟩
  rw [List.length_map]
  have hb := hb.then hb3
  have hbn := hbn.then hb3
  have hrt := hrt.below hb3
  have hcm := hrc.max
  have hcl := hrc.le
  rw [List.length_map] at hcl
  have HRT := mkHid hrt
  have HTO := mkHid hto
  have HRC := mkHid hrc
  have HCS := mkHid hcs
  have HBN := mkHid hbn
  have HB3 := mkHid hb
  have HX0 := mkHid x0
  have HX1 := mkHid x1
  clear hrt hto hrc hcs hb hbn hb1 hb2 hb3 hbx x0 x1
  go_wp2
  go_loopw [8] (fun i wr => ∃ k : Nat, k ≤ cs.length ∧ i = .int .i64 k ∧ Below w3.heap.size w3 wr) (fun i wr => cs.length - (intOf i).toNat)
  case atStart => exact ⟨0, Nat.zero_le _, rfl, Below.refl _ _⟩
  case round =>
    obtain ⟨k, hk, rfl, hb⟩ := hrel
    by_cases hlt : k < cs.length
    · have hlt' : k < (cs.map Ct.row).length := by simpa using hlt
      obtain ⟨b, off, rfl, hbl, hat⟩ := HRC.out.cases.resolve_left (fun e => by rw [e] at hlt'; simp at hlt')
      obtain ⟨a1, cap1, a2, cap2, d0, d1, r1, r2⟩ := cl_at hat hb hlt'
      rw [List.getElem_map] at d0 d1 r1 r2
      simp only [Ct.row, List.length_map] at d0 d1 r1 r2
      have hct := HCS.out _ (List.getElem_mem hlt)
      have hlen := hct.len
      have hok := hct.ok
      have hpw : ∀ W, Below wr.heap.size wr W → Pow W := fun W h => Hp.pow_then HP.out (HB3.out.then (hb.then h))
      have HSQ : Hid (∀ W', Below wr.heap.size wr W' → (fun w' : World => w'.cell? ⟨b, off + k * 2, none⟩ = some (.slice a1 cs[k].h.flat.length cap1) ∧ w'.cell? ⟨b, off + k * 2 + 1, none⟩ = some (.slice a2 cs[k].b.length cap2)) W') := fun W' h => ⟨keep d0 h, keep d1 h⟩
      have HPC : Hid (∀ W', Below wr.heap.size wr W' → Calls Tryd.prog 13 #[.agg #[.slice a1 cs[k].h.flat.length cap1, .slice a2 cs[k].b.length cap2]] W' fun e w' => e = .returned (.string (tx cs[k].text)) ∧ Below W'.heap.size W' w') := fun W' h => pclause_any cs[k] hok a1 cap1 a2 cap2 W' (by omega) (hpw _ h) (r1.below h) (r2.below h)
      have HRC2 : Hid (∀ W', Below wr.heap.size wr W' → Calls Tryd.prog 14 #[.agg #[.slice a1 cs[k].h.flat.length cap1, .slice a2 cs[k].b.length cap2]] W' fun e w' => e = .returned (.string (tx cs[k].text)) ∧ Below W'.heap.size W' w') := fun W' h => rClause_any cs[k] hok a1 cap1 a2 cap2 W' (by omega) (r1.below h) (r2.below h)
      have hcd := (Below.refl wr.heap.size wr).drew
      clear hat r1 r2 hct hok hpw hlen d0 d1 hbl
      go_wp2_with fail
      refine wp_region_noPanic ?_
      refine wp_region_held_drew (S := (fun w' : World => w'.cell? ⟨b, off + k * 2, none⟩ = some (.slice a1 cs[k].h.flat.length cap1) ∧ w'.cell? ⟨b, off + k * 2 + 1, none⟩ = some (.slice a2 cs[k].b.length cap2))) (by kernel_rfl) (HSQ.out _ hcd) (fun hSd => ?_)
      refine wpAnyH_take (i := 0) (oi := _) (v := ?_) rfl (by kernel_rfl) (by kernel_rfl) (by kernel_rfl) (fun _ _ _ h => h) (Or.inl ⟨by rfl, ?_⟩) (by assumption) ?_
      rotate_left
      · (intro w' hSw; (try dsimp only at hSw); go_simp; try with_reducible rfl)
      (try simp only [Act.put, List.setIfInBounds_toArray, List.set_cons_zero, List.set_cons_succ])
      refine wpAnyH_take (i := 1) (oi := _) (v := ?_) rfl (by kernel_rfl) (by kernel_rfl) (by kernel_rfl) (fun _ _ _ h => h) (Or.inl ⟨by rfl, ?_⟩) (by assumption) ?_
      rotate_left
      · (intro w' hSw; (try dsimp only at hSw); go_simp; try with_reducible rfl)
      (try simp only [Act.put, List.setIfInBounds_toArray, List.set_cons_zero, List.set_cons_succ])
      refine wpAnyH_take (i := 2) (oi := _) (v := ?_) rfl (by kernel_rfl) (by kernel_rfl) (by kernel_rfl) (fun _ _ _ h => h) (Or.inl ⟨by rfl, ?_⟩) (by assumption) ?_
      rotate_left
      · (intro w' hSw; (try dsimp only at hSw); go_simp; try with_reducible rfl)
      (try simp only [Act.put, List.setIfInBounds_toArray, List.set_cons_zero, List.set_cons_succ])
      refine wpAnyH_take (i := 3) (oi := _) (v := ?_) rfl (by kernel_rfl) (by kernel_rfl) (by kernel_rfl) (fun _ _ _ h => h) (Or.inl ⟨by rfl, ?_⟩) (by assumption) ?_
      rotate_left
      · (intro w' hSw; (try dsimp only at hSw); go_simp; try with_reducible rfl)
      (try simp only [Act.put, List.setIfInBounds_toArray, List.set_cons_zero, List.set_cons_succ])
      refine wpAnyH_take (i := 5) (oi := _) (v := ?_) rfl (by kernel_rfl) (by kernel_rfl) (by kernel_rfl) (fun _ _ _ h => h) (Or.inl ⟨by rfl, ?_⟩) (by assumption) ?_
      rotate_left
      · (intro w' hSw; (try dsimp only at hSw); go_simp; try with_reducible rfl)
      (try simp only [Act.put, List.setIfInBounds_toArray, List.set_cons_zero, List.set_cons_succ])
      refine wpAnyH_take (i := 6) (oi := _) (v := ?_) rfl (by kernel_rfl) (by kernel_rfl) (by kernel_rfl) (fun _ _ _ h => h) (Or.inl ⟨by rfl, ?_⟩) (by assumption) ?_
      rotate_left
      · (intro w' hSw; (try dsimp only at hSw); go_simp; try with_reducible rfl)
      (try simp only [Act.put, List.setIfInBounds_toArray, List.set_cons_zero, List.set_cons_succ])
      refine wpAnyH_take (i := 7) (oi := _) (v := ?_) rfl (by kernel_rfl) (by kernel_rfl) (by kernel_rfl) (fun _ _ _ h => h) (Or.inl ⟨by rfl, ?_⟩) (by assumption) ?_
      rotate_left
      · (intro w' hSw; (try dsimp only at hSw); go_simp; try with_reducible rfl)
      (try simp only [Act.put, List.setIfInBounds_toArray, List.set_cons_zero, List.set_cons_succ])
      refine wpAnyH_take (i := 8) (oi := _) (v := ?_) rfl (by kernel_rfl) (by kernel_rfl) (by kernel_rfl) (fun _ _ _ h => h) (Or.inl ⟨by rfl, ?_⟩) (by assumption) ?_
      rotate_left
      · (intro w' hSw; (try dsimp only at hSw); go_simp; try with_reducible rfl)
      (try simp only [Act.put, List.setIfInBounds_toArray, List.set_cons_zero, List.set_cons_succ])
      refine wpAnyH_ready (rs := [4]) (by kernel_rfl) (by simp) ?_
      refine AllReadyH.cons (o := _) rfl (fun Kq hKq => ?_) AllReadyH.nil
      go_simp
      refine (HPC.out _ hcd).mono ?_
      rintro e V1 ⟨rfl, hq1⟩
      have hc1 := hcd.then hq1
      try dsimp only
      refine hKq.out _ _ (HSQ.out _ hc1) (fun _ => ?_)
      clear hKq Kq
      (try simp only [Act.put, List.setIfInBounds_toArray, List.set_cons_zero, List.set_cons_succ])
      refine wpAnyH_ready (rs := [9]) (by kernel_rfl) (by simp) ?_
      refine AllReadyH.cons (o := _) rfl (fun Kq hKq => ?_) AllReadyH.nil
      go_simp
      refine (HRC2.out _ hc1).mono ?_
      rintro e V2 ⟨rfl, hq2⟩
      have hc2 := hc1.then hq2
      try dsimp only
      refine hKq.out _ _ (HSQ.out _ hc2) (fun _ => ?_)
      clear hKq Kq
      (try simp only [Act.put, List.setIfInBounds_toArray, List.set_cons_zero, List.set_cons_succ])
      refine wpAnyH_take (i := 10) (oi := _) (v := ?_) rfl (by kernel_rfl) (by kernel_rfl) (by kernel_rfl) (fun _ _ _ h => h) (Or.inl ⟨by rfl, ?_⟩) (by assumption) ?_
      rotate_left
      · (intro w' hSw; (try dsimp only at hSw); go_simp; try with_reducible rfl)
      (try simp only [Act.put, List.setIfInBounds_toArray, List.set_cons_zero, List.set_cons_succ])
      refine wpAnyH_done (by kernel_rfl) (NoPanic.normal ?_) _
      have HB2 := mkHid (hb.then hc2)
      clear hc1 hc2 hq1 hq2 hcd hSd
      generalize tx cs[k].text = u
      go_wp2_with fail
      go_round
      case rel => exact ⟨k + 1, by omega, by go_num, HB2.out⟩
      case measure => simp [intOf]; omega
    · obtain rfl : k = cs.length := by omega
      have HW : Hid (Below w3.heap.size w3 wr) := hb
      have hcd := (Below.refl wr.heap.size wr).drew
      have HSX : Hid (∀ W', Below wr.heap.size wr W' → (fun w' : World => w'.cell? ⟨w.heap.size, 0, none⟩ = some (.string s) ∧ w'.cell? ⟨w.heap.size, 1, none⟩ = some (.int .u16 (n : Int))) W') := fun W' h => ⟨keep HX0.out (HBN.out.then (hb.then h)), keep HX1.out (HBN.out.then (hb.then h))⟩
      clear hb
      go_wp2_with fail
      refine wp_region_noPanic ?_
      refine wp_region_held_drew (S := (fun w' : World => w'.cell? ⟨w.heap.size, 0, none⟩ = some (.string s) ∧ w'.cell? ⟨w.heap.size, 1, none⟩ = some (.int .u16 (n : Int)))) (by kernel_rfl) (HSX.out _ hcd) (fun hSd => ?_)
      refine wpAnyH_take (i := 0) (oi := _) (v := ?_) rfl (by kernel_rfl) (by kernel_rfl) (by kernel_rfl) (fun _ _ _ h => h) (Or.inl ⟨by rfl, ?_⟩) (by assumption) ?_
      rotate_left
      · (intro w' hSw; (try dsimp only at hSw); go_simp; try with_reducible rfl)
      (try simp only [Act.put, List.setIfInBounds_toArray, List.set_cons_zero, List.set_cons_succ])
      refine wpAnyH_take (i := 1) (oi := _) (v := ?_) rfl (by kernel_rfl) (by kernel_rfl) (by kernel_rfl) (fun _ _ _ h => h) (Or.inl ⟨by rfl, ?_⟩) (by assumption) ?_
      rotate_left
      · (intro w' hSw; (try dsimp only at hSw); go_simp; try with_reducible rfl)
      (try simp only [Act.put, List.setIfInBounds_toArray, List.set_cons_zero, List.set_cons_succ])
      refine wpAnyH_take (i := 3) (oi := _) (v := ?_) rfl (by kernel_rfl) (by kernel_rfl) (by kernel_rfl) (fun _ _ _ h => h) (Or.inl ⟨by rfl, ?_⟩) (by assumption) ?_
      rotate_left
      · (intro w' hSw; (try dsimp only at hSw); go_simp; try with_reducible rfl)
      (try simp only [Act.put, List.setIfInBounds_toArray, List.set_cons_zero, List.set_cons_succ])
      refine wpAnyH_take (i := 4) (oi := _) (v := ?_) rfl (by kernel_rfl) (by kernel_rfl) (by kernel_rfl) (fun _ _ _ h => h) (Or.inl ⟨by rfl, ?_⟩) (by assumption) ?_
      rotate_left
      · (intro w' hSw; (try dsimp only at hSw); go_simp; try with_reducible rfl)
      (try simp only [Act.put, List.setIfInBounds_toArray, List.set_cons_zero, List.set_cons_succ])
      refine wpAnyH_take (i := 5) (oi := _) (v := ?_) rfl (by kernel_rfl) (by kernel_rfl) (by kernel_rfl) (fun _ _ _ h => h) (Or.inl ⟨by rfl, ?_⟩) (by assumption) ?_
      rotate_left
      · (intro w' hSw; (try dsimp only at hSw); go_simp; try with_reducible rfl)
      (try simp only [Act.put, List.setIfInBounds_toArray, List.set_cons_zero, List.set_cons_succ])
      refine wpAnyH_take (i := 6) (oi := _) (v := ?_) rfl (by kernel_rfl) (by kernel_rfl) (by kernel_rfl) (fun _ _ _ h => h) (Or.inl ⟨by rfl, ?_⟩) (by assumption) ?_
      rotate_left
      · (intro w' hSw; (try dsimp only at hSw); go_simp; try with_reducible rfl)
      (try simp only [Act.put, List.setIfInBounds_toArray, List.set_cons_zero, List.set_cons_succ])
      refine wpAnyH_ready (rs := [2]) (by kernel_rfl) (by simp) ?_
      refine AllReadyH.cons (o := _) rfl (fun Kq hKq => ?_) AllReadyH.nil
      go_simp
      refine (rName_any s _).mono ?_
      rintro e V1 ⟨rfl, hq1⟩
      have hc1 := hcd.then hq1
      try dsimp only
      refine hKq.out _ _ (HSX.out _ hc1) (fun _ => ?_)
      clear hKq Kq
      (try simp only [Act.put, List.setIfInBounds_toArray, List.set_cons_zero, List.set_cons_succ])
      refine wpAnyH_take (i := 7) (oi := _) (v := ?_) rfl (by kernel_rfl) (by kernel_rfl) (by kernel_rfl) (fun _ _ _ h => h) (Or.inl ⟨by rfl, ?_⟩) (by assumption) ?_
      rotate_left
      · (intro w' hSw; (try dsimp only at hSw); go_simp; try with_reducible rfl)
      (try simp only [Act.put, List.setIfInBounds_toArray, List.set_cons_zero, List.set_cons_succ])
      refine wpAnyH_take (i := 8) (oi := _) (v := ?_) rfl (by kernel_rfl) (by kernel_rfl) (by kernel_rfl) (fun _ _ _ h => h) (Or.inl ⟨by rfl, ?_⟩) (by assumption) ?_
      rotate_left
      · (intro w' hSw; (try dsimp only at hSw); go_simp; try with_reducible rfl)
      (try simp only [Act.put, List.setIfInBounds_toArray, List.set_cons_zero, List.set_cons_succ])
      refine wpAnyH_done (by kernel_rfl) (NoPanic.normal ?_) _
      obtain ⟨nm, hnm⟩ : ∃ nm, nm = tx (nameMade s.data.toList) := ⟨_, rfl⟩
      rw [← hnm]
      have hns : nm.size ≤ 12 ∧ 0 < nm.size := by rw [hnm, tx_size]; have := nameMade_len s.data.toList; omega
      obtain ⟨hns1, hns2⟩ := hns
      have hbv : Below w.heap.size w V1 := HB3.out.then (HW.out.then hc1)
      have hbv3 : Below w3.heap.size w3 V1 := HW.out.then hc1
      have hcok : ∀ c ∈ cs, c.ok := fun c hc => (HCS.out c hc).ok
      have hpl := prog_len HCS.out
      have htl2 := text_small HTO.out (by omega)
      have hq : (n : Int) % 1000 = ((n % 1000 : Nat) : Int) := by omega
      have HQ := mkHid hq
      have HBV := mkHid hbv
      have HBV3 := mkHid hbv3
      have HCO := mkHid hcok
      clear hnm hq hq1 hc1 hcd hbv hbv3 hcok hSd
      try rw [HQ.out]
      go_wp2_with fail
      refine (pterm_any t HTO.out (by omega) at2 ct2 V1 (by omega) (Hp.pow_then HP.out HBV.out) (HRT.out.below HBV3.out)).mono ?_
      rintro e V2 ⟨rfl, hq2⟩
      have HB := mkHid (HBV3.out.then hq2)
      clear hq2
      go_wp2_with fail
      refine (refT_all 200 (by omega) t at2 ct2 V2 HTO.out (by omega) (by omega) (HRT.out.below HB.out)).mono ?_
      rintro e V3 ⟨rfl, hq3⟩
      have HB5 := mkHid (HB.out.then hq3)
      clear hq3
      generalize tx (textT t) = u1
      go_wp2_with fail
      refine (pprogram_any cs HCO.out ac cc V3 (by omega) (Hp.pow_then HP.out (HB3.out.then HB5.out)) (HRC.out.below HB5.out)).mono ?_
      rintro e V4 ⟨rfl, hq3⟩
      have HB6 := mkHid (HB5.out.then hq3)
      clear hq3
      go_wp2_with fail
      refine (rProgram_any cs HCO.out ac cc V4 (by omega) (HRC.out.below HB6.out)).mono ?_
      rintro e V5 ⟨rfl, hq3⟩
      have HB7 := mkHid (HB6.out.then hq3)
      clear hq3
      generalize tx (progT cs) = u2
      go_wp2_with fail
      refine (quote_any nm V5 (by omega)).mono ?_
      rintro e V6 ⟨rfl, hq3⟩
      have HB8 := mkHid (HB7.out.then hq3)
      clear hq3
      go_wp2_with fail
      refine (rQuote_any nm V6 (by omega) hns2).mono ?_
      rintro e V7 ⟨rfl, rfl⟩
      generalize (⟨(nameL nm.data.toList).toArray⟩ : ByteArray) = u3
      go_wp2_with fail
      refine (varName_any (n % 1000) _ (by omega) (Hp.pow_then HP.out (HB3.out.then HB8.out))).mono ?_
      rintro e V8 ⟨rfl, hq3⟩
      have HB9 := mkHid (HB8.out.then hq3)
      clear hq3
      go_wp2_with fail
      refine (rVarName_any (n % 1000) V8 (by omega)).mono ?_
      rintro e V9 ⟨rfl, hq3⟩
      have HB10 := mkHid (HB9.out.then hq3)
      clear hq3
      generalize (⟨(varL (n % 1000)).toArray⟩ : ByteArray) = u4
      go_wp2_with fail
      go_ret
      exact ⟨rfl, HB3.out.then HB10.out⟩
end Go.Proofs.YtabjghmfjoefpaaDoor
set_option linter.unusedVariables false
namespace Go.Proofs.YtabjghmfjoefpaaDoor
open Go.RowKit
open Md

/-! ### of which bytes texts are -/
namespace Tx
def seen (c : UInt8) : Bool := decide (32 ≤ c) && decide (c ≤ 126)
theorem seen_digit : ∀ c : UInt8, digitB c = true → seen c = true := by
  intro c hc
  have h : ∀ c : UInt8, (!digitB c || seen c) = true := all_u8 (p := fun c => !digitB c || seen c) (by decide +kernel)
  have := h c
  rw [hc] at this
  simpa using this
theorem seen_ok : ∀ c : UInt8, okByte c = true → seen c = true := by
  intro c hc
  have h : ∀ c : UInt8, (!okByte c || seen c) = true := all_u8 (p := fun c => !okByte c || seen c) (by decide +kernel)
  have := h c
  rw [hc] at this
  simpa using this
theorem seen_name {s : List UInt8} (h : ∀ c ∈ s, okByte c = true) : ∀ c ∈ nameL s, seen c = true := by
  intro c hc
  unfold nameL at hc
  split at hc
  · exact seen_ok c (h c hc)
  · simp only [List.cons_append, List.mem_cons, List.mem_append, List.mem_singleton, List.not_mem_nil, or_false] at hc
    rcases hc with rfl | hc | rfl
    · decide
    · exact seen_ok c (h c hc)
    · decide
theorem seen_var (n : Nat) : ∀ c ∈ varL n, seen c = true := by
  intro c hc
  rcases List.mem_cons.1 hc with rfl | hc
  · exact (by decide : ∀ i : Fin 26, seen (UInt8.ofNat (65 + i.val)) = true) ⟨n % 26, Nat.mod_lt _ (by omega)⟩
  · split at hc
    · cases hc
    · exact seen_digit c (dec_all _ c hc)
theorem seen_itoa (n : Int) : ∀ c ∈ Lib.itoa n, seen c = true := by
  intro c hc
  unfold Lib.itoa at hc
  split at hc
  · rcases List.mem_cons.1 hc with rfl | hc
    · decide
    · exact seen_digit c (dec_all _ c hc)
  · exact seen_digit c (dec_all _ c hc)
theorem seen_sep {s : List UInt8} (hs : ∀ c ∈ s, seen c = true) {xs : List (List UInt8)} (h : ∀ x ∈ xs, ∀ c ∈ x, seen c = true) : ∀ c ∈ sepL s xs, seen c = true := by
  cases xs with
  | nil => intro c hc; cases hc
  | cons x r =>
    intro c hc
    simp only [sepL, List.mem_append, List.mem_flatten, List.mem_map] at hc
    rcases hc with hc | ⟨l, ⟨y, hy, rfl⟩, hc⟩
    · exact h x List.mem_cons_self c hc
    · rcases List.mem_append.1 hc with hc | hc
      · exact hs c hc
      · exact h y (List.mem_cons_of_mem _ hy) c hc
theorem seen_text (t : Tm) (ht : t.ok) : (∀ c ∈ textT t, seen c = true) ∧ ∀ c ∈ behT t, seen c = true := by
  induction t using tm_len with
  | H t ih =>
  obtain ⟨c, ts⟩ := t
  obtain ⟨h1, h2, h3⟩ := ht
  have IH : ∀ u ∈ ts, (∀ c ∈ textT u, seen c = true) ∧ ∀ c ∈ behT u, seen c = true := fun u hu => ih u hu (oks_mem h3 u hu)
  have hx : ∀ x ∈ textsT ts, ∀ c ∈ x, seen c = true := fun x hx => by
    obtain ⟨u, hu, rfl⟩ := List.mem_map.1 hx
    exact (IH u hu).1
  have item2 : isC c [46] 2 = true → ∀ d ∈ item (boths ts), seen d = true := fun hd => by
    obtain ⟨x, y, rfl, hx, hy⟩ := ok_two (c := c) (ts := ts) ⟨h1, h2, h3⟩ hd
    rw [item_two]
    intro d hdm
    rcases List.mem_append.1 hdm with q | q
    · exact (IH x (by simp)).1 d q
    · exact (IH y (by simp)).2 d q
  have own : ∀ d ∈ textT (.mk c ts), seen d = true := by
    rcases cell_kind h1 with ⟨hk, k1, k2⟩ | ⟨hk, k1, k2⟩ | ⟨hk, hs, k1, k2⟩
    · rw [text_var hk]; exact seen_var _
    · rw [text_int hk]; exact seen_itoa _
    · have hok := okname h1 hk
      cases hi : infixB c with
      | true =>
        rw [text_infix hk hi]
        intro d hd
        simp only [List.mem_cons, List.mem_append, List.mem_singleton, List.not_mem_nil, or_false] at hd
        rcases hd with rfl | hd | rfl
        · decide
        · refine seen_sep (fun e he => ?_) hx d hd
          simp only [List.mem_cons, List.mem_append, List.mem_singleton, List.cons_append, List.not_mem_nil, or_false] at he
          rcases he with rfl | he | rfl
          · decide
          · exact seen_ok e (hok e he)
          · decide
        · decide
      | false =>
        cases hm : isC c [45] 1 with
        | true =>
          rw [text_minus hk hi hm]
          intro d hd
          simp only [List.mem_cons, List.mem_append, List.mem_singleton, List.not_mem_nil, or_false] at hd
          rcases hd with rfl | rfl | hd | rfl
          · decide
          · decide
          · exact seen_sep (fun e he => by cases he) hx d hd
          · decide
        | false =>
          cases hn : isC c [91, 93] 0 with
          | true => rw [text_nil hk hi hm hn]; decide
          | false =>
            cases hd : isC c [46] 2 with
            | true =>
              rw [text_list hk hi hm hn hd]
              intro d hdm
              rcases List.mem_cons.1 hdm with rfl | q
              · decide
              · exact item2 hd d q
            | false =>
              rw [text_plain hk hi hm hn hd]
              intro d hdm
              rcases List.mem_append.1 hdm with q | q
              · exact seen_name hok d q
              · split at q
                · simp only [List.mem_cons, List.mem_append, List.mem_singleton, List.not_mem_nil, or_false] at q
                  rcases q with rfl | q | rfl
                  · decide
                  · exact seen_sep (by decide) hx d q
                  · decide
                · cases q
  refine ⟨own, ?_⟩
  cases hd : isC c [46] 2 with
  | true =>
    rw [beh_list hd]
    intro d hdm
    rcases List.mem_cons.1 hdm with rfl | q
    · decide
    · exact item2 hd d q
  | false =>
    cases hn : isC c [91, 93] 0 with
    | true => rw [beh_nil hd hn]; decide
    | false =>
      rw [beh_bar hd hn]
      intro d hdm
      simp only [List.mem_cons, List.mem_append, List.mem_singleton, List.not_mem_nil, or_false] at hdm
      rcases hdm with rfl | q | rfl
      · decide
      · exact own d q
      · decide
theorem seen_clause {c : Ct} (h : ClT c) : ∃ y, c.text = y ++ [46] ∧ ∀ d ∈ y, seen d = true := by
  refine ⟨textT c.h ++ (if 0 < c.b.length then [32, 58, 45, 32] ++ sepL [44, 32] (litsT c.b) else []), by rw [Ct.text, clauseT, List.append_assoc], fun d hd => ?_⟩
  rcases List.mem_append.1 hd with q | q
  · exact (seen_text _ h.h.ok).1 d q
  · split at q
    · rcases List.mem_append.1 q with q | q
      · exact (by decide : ∀ d ∈ ([32, 58, 45, 32] : List UInt8), seen d = true) d q
      · refine seen_sep (by decide) (fun x hx => ?_) d q
        obtain ⟨t, ht, rfl⟩ := List.mem_map.1 hx
        intro e he
        unfold litT at he
        rcases List.mem_append.1 he with q | q
        · split at q
          · exact (by decide : ∀ d ∈ ([92, 43, 32] : List UInt8), seen d = true) e q
          · cases q
        · exact (seen_text _ (h.b t ht).ok).1 e q
    · cases q
theorem lf_not : ∀ d : UInt8, seen d = true → d ≠ 10 := by
  rintro d h rfl
  revert h; decide
/-- how many line feeds -/
def lf (l : List UInt8) : Nat := l.countP (· == 10)
theorem lf_prog {cs : List Ct} (h : ∀ c ∈ cs, ClT c) : lf (progT cs) = cs.length := by
  induction cs with
  | nil => rfl
  | cons c cs ih =>
    have e : progT (c :: cs) = (c.text ++ [10]) ++ progT cs := rfl
    obtain ⟨y, hy, hs⟩ := seen_clause (h c List.mem_cons_self)
    have h0 : lf c.text = 0 := by
      unfold lf
      rw [List.countP_eq_zero, hy]
      intro d hd
      rcases List.mem_append.1 hd with q | q
      · have := lf_not d (hs d q); simpa using this
      · rw [List.mem_singleton.1 q]; decide
    have h1 := ih fun x hx => h x (List.mem_cons_of_mem _ hx)
    unfold lf at h0 h1 ⊢
    rw [e, List.countP_append, List.countP_append, h0, h1]
    simp; omega
theorem prog_bytes {cs : List Ct} (h : ∀ c ∈ cs, ClT c) : ∀ k (hk : k < (progT cs).length), ((progT cs)[k] = 10 → 0 < k ∧ ∃ h', (progT cs)[k - 1]'h' = 46) ∧ ((progT cs)[k] ≠ 10 → seen (progT cs)[k] = true) := by
  induction cs with
  | nil => intro k hk; simp [progT] at hk
  | cons c cs ih =>
    intro k hk
    obtain ⟨y, hy, hs⟩ := seen_clause (h c List.mem_cons_self)
    have e : progT (c :: cs) = y ++ (46 :: 10 :: progT cs) := by
      show (c.text ++ [10]) ++ progT cs = _
      rw [hy]; simp
    have IH := ih fun x hx => h x (List.mem_cons_of_mem _ hx)
    generalize progT (c :: cs) = P at e hk ⊢
    subst e
    rw [List.length_append] at hk
    simp only [List.length_cons] at hk
    by_cases h1 : k < y.length
    · rw [List.getElem_append_left h1]
      have hsn := hs _ (List.getElem_mem h1)
      exact ⟨fun e => absurd e (lf_not _ hsn), fun _ => hsn⟩
    · rw [List.getElem_append_right (by omega)]
      obtain ⟨j, rfl⟩ : ∃ j, k = y.length + j := ⟨k - y.length, by omega⟩
      have ej : y.length + j - y.length = j := by omega
      match j, ej with
      | 0, _ => simp; decide
      | 1, _ =>
        refine ⟨fun _ => ⟨by omega, by simp, ?_⟩, fun hne => ?_⟩
        · rw [List.getElem_append_right (by omega)]
          simp
        · simp at hne
      | j + 2, _ =>
        have hj : j < (progT cs).length := by omega
        obtain ⟨i1, i2⟩ := IH j hj
        have e3 : ∀ hh, (46 :: 10 :: progT cs)[y.length + (j + 2) - y.length]'hh = (progT cs)[j] := fun hh => by
          have : y.length + (j + 2) - y.length = j + 2 := by omega
          simp only [this, List.getElem_cons_succ]
        rw [e3]
        refine ⟨fun q => ?_, i2⟩
        obtain ⟨p1, p2, p3⟩ := i1 q
        refine ⟨by omega, by simp; omega, ?_⟩
        rw [List.getElem_append_right (by omega)]
        have e4 : y.length + (j + 2) - 1 - y.length = (j - 1) + 2 := by omega
        simp only [e4, List.getElem_cons_succ]
        exact p3
end Tx
end Go.Proofs.YtabjghmfjoefpaaDoor
set_option linter.unusedVariables false
namespace Go.Proofs.YtabjghmfjoefpaaDoor
open Go.RowKit
open Md

theorem lf_take (s : ByteArray) (k : Nat) (h : k < s.size) : Tx.lf (s.data.toList.take (k + 1)) = Tx.lf (s.data.toList.take k) + (if s[k] = 10 then 1 else 0) := by
  rw [take_snocB s k h]
  unfold Tx.lf
  rw [List.countP_append]
  congr 1
  simp [List.countP_cons]
set_option maxRecDepth 100000 in
set_option maxHeartbeats 16000000 in
theorem lawPSigns_any (w : World) (hp : Pow w) (l : List Cl) (b0 : Option Addr) (capl : Nat) (hl : Row w b0 capl l) :
    Calls Tryd.prog 7 #[.slice b0 l.length capl] w fun e w' => e = .returned (.bool true) ∧ Below w.heap.size w w' := by
  have HL := mkHid hl
  have HP := mkHid hp
  clear hl hp
  go_enter Tryd.func7, Tryd.ntmps7
  go_wp2_with fail
  refine (head6_any _ HP.out).mono ?_
  rintro e w1 ⟨rfl, hb1⟩
  go_wp2_with fail
  have hcl := rClauses_any l b0 capl w1 (HL.out.below hb1) 6 (by omega)
  rw [show ((6 : Nat) : Int) = 6 from rfl] at hcl
  refine hcl.mono ?_
  clear hcl
  rintro e w2 ⟨ac, cc, cs, rfl, hrc, hcs, hcn, hb2⟩
  rw [List.length_map]
  have hb := hb1.then hb2
  have hpl := prog_len hcs
  have hcok : ∀ c ∈ cs, c.ok := fun c hc => (hcs c hc).ok
  have hcm := hrc.max
  have hcl := hrc.le
  rw [List.length_map] at hcl
  have HRC := mkHid hrc
  have HCS := mkHid hcs
  have HCO := mkHid hcok
  have HB := mkHid hb
  clear hrc hcs hcok hb1 hb2 hb
  go_wp2_with fail
  refine (pprogram_any cs HCO.out ac cc w2 (by omega) (Hp.pow_then HP.out HB.out) HRC.out).mono ?_
  rintro e w3 ⟨rfl, hb3⟩
  obtain ⟨s, hs⟩ : ∃ s, s = tx (progT cs) := ⟨_, rfl⟩
  rw [← hs]
  have hs1 : s.size = (progT cs).length := by rw [hs, tx_size]
  have hsl : s.size ≤ 1000000 := by omega
  have HS := mkHid hs
  have HB3 := mkHid hb3
  have hsd : s.data.toList = progT cs := by rw [hs]; rfl
  have hby := Tx.prog_bytes HCS.out
  have hlf := Tx.lf_prog HCS.out
  have hb0 : ∀ k (hk : k < s.size), (s[k] = 10 → 0 < k ∧ ∃ h', s[k - 1]'h' = 46) ∧ (s[k] ≠ 10 → Tx.seen s[k] = true) := by
    intro k hk
    have e : ∀ j (hj : j < s.size) (hj' : j < (progT cs).length), s[j] = (progT cs)[j] := fun j hj hj' => by
      subst hs; rfl
    have := hby k (by omega)
    rw [e k hk (by omega)]
    refine ⟨fun q => ?_, this.2⟩
    obtain ⟨p1, p2, p3⟩ := this.1 q
    exact ⟨p1, by omega, by rw [e (k - 1) (by omega) p2]; exact p3⟩
  have HBY := mkHid hb0
  have HLF : Hid (Tx.lf (s.data.toList.take s.size) = cs.length) := by rw [Hid, List.take_of_length_le (by simp), hsd, hlf]
  clear hs hb3 hsd hby hlf hb0 hs1
  go_wp2
  go_loopw [5, 7] (fun t i wr => ∃ k : Nat, k ≤ cs.length ∧ i = .int .i64 k ∧ Hid (t = .string (tx (progT (cs.take k)))) ∧ Below w3.heap.size w3 wr) (fun t i wr => cs.length - (intOf i).toNat)
  case atStart => exact ⟨0, Nat.zero_le _, rfl, rfl, Below.refl _ _⟩
  case round =>
    obtain ⟨k, hk, rfl, HSS, hb⟩ := hrel
    rename World => W
    have hbW := HB3.out.then hb
    by_cases hlt : k < cs.length
    · have hlt' : k < (cs.map Ct.row).length := by simpa using hlt
      obtain ⟨b, off, rfl, hbl, hat⟩ := HRC.out.cases.resolve_left (fun e => by rw [e] at hlt'; simp at hlt')
      obtain ⟨a1, cap1, a2, cap2, d0, d1, r1, r2⟩ := cl_at hat hbW hlt'
      rw [List.getElem_map] at d0 d1 r1 r2
      simp only [Ct.row, List.length_map] at d0 d1 r1 r2
      have hct := HCS.out _ (List.getElem_mem hlt)
      have hlen := hct.len
      have hpl2 := progT_le (cs := cs) (k := k) (by omega)
      have HC := mkHid (pclause_any cs[k] hct.ok a1 cap1 a2 cap2 W (by omega) (Hp.pow_then HP.out (HB.out.then hbW)) r1 r2)
      have HBW := mkHid hb
      obtain ⟨t, ht⟩ : ∃ t, t = tx (progT (cs.take k)) := ⟨_, rfl⟩
      obtain ⟨u, hu⟩ : ∃ u, u = tx cs[k].text := ⟨_, rfl⟩
      have ht1 : t.size = (progT (cs.take k)).length := by rw [ht, tx_size]
      have hu1 : u.size = cs[k].text.length := by rw [hu, tx_size]
      rw [← hu] at HC
      have HE : Hid (t ++ u ++ tx [10] = tx (progT (cs.take (k + 1)))) := by rw [Hid, ht, hu, progT_next hlt, tx_append, tx_append, List.append_assoc]
      have hsv := HSS.out
      rw [← ht] at hsv
      subst hsv
      have z1 : ¬ 9223372036854775807 < t.size + u.size := by omega
      have z2 : ¬ 9223372036854775807 < t.size + u.size + 1 := by omega
      clear ht hu hat r1 r2 hbl hb ht1 hu1 HSS hct hbW
      go_wp2_with fail
      refine HC.out.mono ?_; rintro e w5 ⟨rfl, hb5⟩
      have HB5 := mkHid hb5
      clear hb5
      go_wp2
      go_round
      case rel => exact ⟨k + 1, by omega, by go_num, by rw [Hid, ← HE.out]; rfl, HBW.out.then HB5.out⟩
      case measure => simp [intOf]; omega
    · obtain rfl : k = cs.length := by omega
      have hsv := HSS.out
      rw [List.take_length, ← HS.out] at hsv
      subst hsv
      have HW : Hid (Below w.heap.size w W) := HB.out.then hbW
      clear HSS hb hbW
      go_wp2
      go_loop [6, 8] (fun m i => ∃ k : Nat, k ≤ s.size ∧ i = .int .i64 k ∧ m = .int .i64 ((Tx.lf (s.data.toList.take k) : Nat) : Int)) (fun m i => s.size - (intOf i).toNat)
      case atStart => exact ⟨0, Nat.zero_le _, rfl, rfl⟩
      case round =>
        obtain ⟨k, hk, rfl, rfl⟩ := hrel
        by_cases hlt : k < s.size
        · obtain ⟨i1, i2⟩ := HBY.out k hlt
          have hle : Tx.lf (s.data.toList.take k) ≤ s.size := by
            unfold Tx.lf
            have := List.countP_le_length (p := (· == (10 : UInt8))) (l := s.data.toList.take k)
            rw [List.length_take] at this; omega
          have HT := mkHid (lf_take s k hlt)
          by_cases h10 : s[k] = 10
          · obtain ⟨j0, j1, j2⟩ := i1 h10
            obtain ⟨j, rfl⟩ : ∃ j, k = j + 1 := ⟨k - 1, by omega⟩
            have hj : s[j] = 46 := j2
            have e10 : ((s[j + 1].toNat : Int) == 10) = true := by rw [h10]; rfl
            have e46 : ((s[j].toNat : Int) == 46) = true := by rw [hj]; rfl
            have HT2 : Hid (Tx.lf (s.data.toList.take (j + 1 + 1)) = Tx.lf (s.data.toList.take (j + 1)) + 1) := by rw [Hid, HT.out, if_pos h10]
            clear i1 i2 HT h10 hj j2
            go_wp2
            go_round
            case rel => exact ⟨j + 1 + 1, by omega, by go_num, by rw [HT2.out]; go_num⟩
            case measure => simp [intOf]; omega
          · have hse := i2 h10
            simp only [Tx.seen, Bool.and_eq_true, decide_eq_true_eq, UInt8.le_iff_toNat_le] at hse
            have e10 : ((s[k].toNat : Int) == 10) = false := by
              simp only [beq_eq_false_iff_ne]
              intro e
              exact h10 (UInt8.toNat_inj.1 (by simpa using Int.ofNat.inj e))
            have l1 : 32 ≤ s[k].toNat := by have := hse.1; simpa using this
            have l2 : s[k].toNat ≤ 126 := by have := hse.2; simpa using this
            have HT2 : Hid (Tx.lf (s.data.toList.take (k + 1)) = Tx.lf (s.data.toList.take k)) := by rw [Hid, HT.out, if_neg h10]; rfl
            clear i1 i2 HT h10 hse
            go_wp2
            go_round
            case rel => exact ⟨k + 1, by omega, by go_num, by rw [HT2.out]⟩
            case measure => simp [intOf]; omega
        · obtain rfl : k = s.size := by omega
          rw [HLF.out]
          go_wp2
          go_ret
          exact ⟨rfl, HW.out⟩
end Go.Proofs.YtabjghmfjoefpaaDoor
set_option linter.unusedVariables false
namespace Go.Proofs.YtabjghmfjoefpaaDoor
open Go.RowKit
open Md

namespace Tx
mutual
theorem tm_eq : ∀ (t u : Tm) (r s : List Cel), t.ok → u.ok → t.flat ++ r = u.flat ++ s → t = u ∧ r = s
  | .mk c ts, .mk d us, r, s, h, g, e => by
    simp only [Tm.flat, List.cons_append, List.cons.injEq] at e
    obtain ⟨rfl, e⟩ := e
    obtain ⟨rfl, e2⟩ := tms_eq ts us r s h.2.2 g.2.2 (by rw [h.2.1, g.2.1]) e
    exact ⟨rfl, e2⟩
theorem tms_eq : ∀ (ts us : List Tm) (r s : List Cel), oks ts → oks us → ts.length = us.length → flats ts ++ r = flats us ++ s → ts = us ∧ r = s
  | [], [], r, s, _, _, _, e => ⟨rfl, by simpa [flats] using e⟩
  | [], u :: us, r, s, _, _, l, _ => by simp at l
  | t :: ts, [], r, s, _, _, l, _ => by simp at l
  | t :: ts, u :: us, r, s, h, g, l, e => by
    simp only [flats, List.append_assoc] at e
    obtain ⟨rfl, e1⟩ := tm_eq t u _ _ h.1 g.1 e
    obtain ⟨rfl, e2⟩ := tms_eq ts us r s h.2 g.2 (by simpa using l) e1
    exact ⟨rfl, e2⟩
end
end Tx
theorem lit1 (w : World) {a : Option Addr} {c : Nat} {t : List Cel} {n : Bool} (h1 : Row w a c t) :
    Row (w.alloc (.cells #[.bool n, .slice a t.length c] 49)) (some ⟨w.heap.size, 0, none⟩) 1 ([⟨n, t⟩] : List Lt) := by
  have hb := (Below.refl w.heap.size w).new (.cells #[.bool n, .slice a t.length c] 49)
  exact row_new w _ (49, 0) (xs := ([⟨n, t⟩] : List Lt)) (.cons (cs := [.bool n, .slice a t.length c]) (show RepC.C (α := Lt) _ [.bool n, .slice a t.length c] ⟨n, t⟩ from ⟨a, c, rfl, h1.below hb⟩) .nil) (by simp)
theorem clause_at (c : Ct) (hc : c.ok) (m : Nat) (hm : c.b.length = m) {x : ByteArray} (hx : x = tx c.text) (hx2 : c.text.length ≤ 1000000) (a1 : Option Addr) (cap1 : Nat) (a2 : Option Addr) (cap2 : Nat) (w : World) (hp : Pow w) {bs : List Lt} (hr1 : Row w a1 cap1 c.h.flat) (hr2 : Row w a2 cap2 bs) (e2 : bs = c.b.map litR) :
    Calls Tryd.prog 13 #[.agg #[.slice a1 c.h.flat.length cap1, .slice a2 m cap2]] w fun e w' => e = .returned (.string x) ∧ Below w.heap.size w w' := by
  subst hx; subst hm; subst e2
  exact pclause_any c hc a1 cap1 a2 cap2 w (by omega) hp hr1 hr2
theorem tx_inj {a b : List UInt8} (h : tx a = tx b) : a = b := by
  have := congrArg (fun s : ByteArray => s.data.toList) h
  simpa [tx] using this
theorem tx_eq (a b : List UInt8) : ((tx a).toList == (tx b).toList) = decide (a = b) := by
  rw [Bool.eq_iff_iff]
  simp [ByteArray.toList_eq, tx]
theorem one_text1 (x y : Tm) (n : Bool) : (⟨x, [(n, y)]⟩ : Ct).text = textT x ++ ([32, 58, 45, 32] ++ (litT n y ++ [46])) := by
  simp [Ct.text, clauseT, litsT, sepL]
theorem one_text0 (x : Tm) : (⟨x, []⟩ : Ct).text = textT x ++ [46] := by simp [Ct.text, clauseT]
set_option maxRecDepth 100000 in
set_option maxHeartbeats 32000000 in
theorem lawPUnlike_any (w : World) (hp : Pow w) (xs ys : List Cel) (a : Option Addr) (cap : Nat) (hx : Row w a cap xs) (b : Option Addr) (capb : Nat) (hy : Row w b capb ys) (neg : Bool) :
    Calls Tryd.prog 5 #[.slice a xs.length cap, .slice b ys.length capb, .bool neg] w fun e w' => e = .returned (.bool true) ∧ Below w.heap.size w w' := by
  have HX := mkHid hx
  have HY := mkHid hy
  have HP := mkHid hp
  clear hx hy hp
  go_enter Tryd.func5, Tryd.ntmps5
  go_wp2_with fail
  refine (head6_any _ HP.out).mono ?_
  rintro e w1 ⟨rfl, hb1⟩
  go_wp2_with fail
  have hmd := made6 a cap w1 xs (HX.out.below hb1) 40 (by omega) (by omega)
  rw [show ((40 : Nat) : Int) = 40 from rfl] at hmd
  refine hmd.mono ?_
  clear hmd
  rintro e w2 ⟨at2, ct2, t, rfl, hrt, hto, htl, hb2⟩
  have hb := hb1.then hb2
  go_wp2_with fail
  have hmd := made6 b capb w2 ys (HY.out.below hb) 40 (by omega) (by omega)
  rw [show ((40 : Nat) : Int) = 40 from rfl] at hmd
  refine hmd.mono ?_
  clear hmd
  rintro e w3 ⟨au, cu, u, rfl, hru, huo, hul, hb3⟩
  have hb := hb.then hb3
  have hrt := hrt.below hb3
  go_wp2_with fail
  have hmd := atom_where at2 ct2 w3 t.flat hrt 40 (by omega) (by omega)
  rw [show ((40 : Nat) : Int) = 40 from rfl] at hmd
  refine hmd.mono ?_
  clear hmd
  rintro e w4 ⟨ax, cx, x, rfl, hxa, hxt, hb4⟩
  have hrx := hxa.row hrt hb4
  have hb := hb.then hb4
  have hrt := hrt.below hb4
  have hru := hru.below hb4
  go_wp2_with fail
  have hmd := atom_where au cu w4 u.flat hru 40 (by omega) (by omega)
  rw [show ((40 : Nat) : Int) = 40 from rfl] at hmd
  refine hmd.mono ?_
  clear hmd
  rintro e w5 ⟨ay, cy, y, rfl, hya, hyt, hb5⟩
  have hry := hya.row hru hb5
  have hb := hb.then hb5
  have hrt := hrt.below hb5
  have hru := hru.below hb5
  have hrx := hrx.below hb5
  -- both clauses are laid
  obtain ⟨h, hh⟩ : ∃ h, h = w5.heap.size := ⟨_, rfl⟩
  have n1 : Below w5.heap.size w5 (w5.alloc (.cells #[.bool false, .slice ay y.flat.length cy] 49)) := (Below.refl _ _).new _
  have n2 : Below w5.heap.size w5 ((w5.alloc (.cells #[.bool false, .slice ay y.flat.length cy] 49)).alloc (.cells #[.bool neg, .slice ay y.flat.length cy] 49)) := n1.new _
  have n3 : Below w5.heap.size w5 (((w5.alloc (.cells #[.bool false, .slice ay y.flat.length cy] 49)).alloc (.cells #[.bool neg, .slice ay y.flat.length cy] 49)).alloc (.cells #[.slice ax x.flat.length cx, .slice (some ⟨w5.heap.size, 0, none⟩) 1 1] 33)) := n2.new _
  have n4 : Below w5.heap.size w5 ((((w5.alloc (.cells #[.bool false, .slice ay y.flat.length cy] 49)).alloc (.cells #[.bool neg, .slice ay y.flat.length cy] 49)).alloc (.cells #[.slice ax x.flat.length cx, .slice (some ⟨w5.heap.size, 0, none⟩) 1 1] 33)).alloc (.cells #[.slice ax x.flat.length cx, .slice (some ⟨w5.heap.size + 1, 0, none⟩) 1 1] 33)) := n3.new _
  have l1 : Row (w5.alloc (.cells #[.bool false, .slice ay y.flat.length cy] 49)) (some ⟨w5.heap.size, 0, none⟩) 1 ([⟨false, y.flat⟩] : List Lt) := lit1 w5 hry
  have l2 : Row ((w5.alloc (.cells #[.bool false, .slice ay y.flat.length cy] 49)).alloc (.cells #[.bool neg, .slice ay y.flat.length cy] 49)) (some ⟨w5.heap.size + 1, 0, none⟩) 1 ([⟨neg, y.flat⟩] : List Lt) := by
    have := lit1 (n := neg) (w5.alloc (.cells #[.bool false, .slice ay y.flat.length cy] 49)) (hry.below n1)
    rwa [World.size_alloc] at this
  have m2 : Below (w5.alloc (.cells #[.bool false, .slice ay y.flat.length cy] 49)).heap.size (w5.alloc (.cells #[.bool false, .slice ay y.flat.length cy] 49)) ((((w5.alloc (.cells #[.bool false, .slice ay y.flat.length cy] 49)).alloc (.cells #[.bool neg, .slice ay y.flat.length cy] 49)).alloc (.cells #[.slice ax x.flat.length cx, .slice (some ⟨w5.heap.size, 0, none⟩) 1 1] 33)).alloc (.cells #[.slice ax x.flat.length cx, .slice (some ⟨w5.heap.size + 1, 0, none⟩) 1 1] 33)) := (((Below.refl _ _).new _).new _).new _
  have m3 : Below ((w5.alloc (.cells #[.bool false, .slice ay y.flat.length cy] 49)).alloc (.cells #[.bool neg, .slice ay y.flat.length cy] 49)).heap.size ((w5.alloc (.cells #[.bool false, .slice ay y.flat.length cy] 49)).alloc (.cells #[.bool neg, .slice ay y.flat.length cy] 49)) ((((w5.alloc (.cells #[.bool false, .slice ay y.flat.length cy] 49)).alloc (.cells #[.bool neg, .slice ay y.flat.length cy] 49)).alloc (.cells #[.slice ax x.flat.length cx, .slice (some ⟨w5.heap.size, 0, none⟩) 1 1] 33)).alloc (.cells #[.slice ax x.flat.length cx, .slice (some ⟨w5.heap.size + 1, 0, none⟩) 1 1] 33)) := ((Below.refl _ _).new _).new _
  have l1 := l1.below m2
  have l2 := l2.below m3
  have k0 : ((((w5.alloc (.cells #[.bool false, .slice ay y.flat.length cy] 49)).alloc (.cells #[.bool neg, .slice ay y.flat.length cy] 49)).alloc (.cells #[.slice ax x.flat.length cx, .slice (some ⟨w5.heap.size, 0, none⟩) 1 1] 33)).alloc (.cells #[.slice ax x.flat.length cx, .slice (some ⟨w5.heap.size + 1, 0, none⟩) 1 1] 33)).cell? ⟨w5.heap.size + 1 + 1, 0, none⟩ = some (.slice ax x.flat.length cx) := by go_simp
  have k1 : ((((w5.alloc (.cells #[.bool false, .slice ay y.flat.length cy] 49)).alloc (.cells #[.bool neg, .slice ay y.flat.length cy] 49)).alloc (.cells #[.slice ax x.flat.length cx, .slice (some ⟨w5.heap.size, 0, none⟩) 1 1] 33)).alloc (.cells #[.slice ax x.flat.length cx, .slice (some ⟨w5.heap.size + 1, 0, none⟩) 1 1] 33)).cell? ⟨w5.heap.size + 1 + 1, 1, none⟩ = some (.slice (some ⟨w5.heap.size, 0, none⟩) 1 1) := by go_simp
  have k2 : ((((w5.alloc (.cells #[.bool false, .slice ay y.flat.length cy] 49)).alloc (.cells #[.bool neg, .slice ay y.flat.length cy] 49)).alloc (.cells #[.slice ax x.flat.length cx, .slice (some ⟨w5.heap.size, 0, none⟩) 1 1] 33)).alloc (.cells #[.slice ax x.flat.length cx, .slice (some ⟨w5.heap.size + 1, 0, none⟩) 1 1] 33)).cell? ⟨w5.heap.size + 1 + 1 + 1, 0, none⟩ = some (.slice ax x.flat.length cx) := by go_simp
  have k3 : ((((w5.alloc (.cells #[.bool false, .slice ay y.flat.length cy] 49)).alloc (.cells #[.bool neg, .slice ay y.flat.length cy] 49)).alloc (.cells #[.slice ax x.flat.length cx, .slice (some ⟨w5.heap.size, 0, none⟩) 1 1] 33)).alloc (.cells #[.slice ax x.flat.length cx, .slice (some ⟨w5.heap.size + 1, 0, none⟩) 1 1] 33)).cell? ⟨w5.heap.size + 1 + 1 + 1, 1, none⟩ = some (.slice (some ⟨w5.heap.size + 1, 0, none⟩) 1 1) := by go_simp
  have HB5 := mkHid hb
  have HRX := mkHid (hrx.below n4)
  have HRT := mkHid (hrt.below n4)
  have HRU := mkHid (hru.below n4)
  have HBX := mkHid (hb.then n4)
  have HL1 := mkHid l1
  have HL2 := mkHid l2
  have HK : Hid (∀ W', Below ((((w5.alloc (.cells #[.bool false, .slice ay y.flat.length cy] 49)).alloc (.cells #[.bool neg, .slice ay y.flat.length cy] 49)).alloc (.cells #[.slice ax x.flat.length cx, .slice (some ⟨w5.heap.size, 0, none⟩) 1 1] 33)).alloc (.cells #[.slice ax x.flat.length cx, .slice (some ⟨w5.heap.size + 1, 0, none⟩) 1 1] 33)).heap.size ((((w5.alloc (.cells #[.bool false, .slice ay y.flat.length cy] 49)).alloc (.cells #[.bool neg, .slice ay y.flat.length cy] 49)).alloc (.cells #[.slice ax x.flat.length cx, .slice (some ⟨w5.heap.size, 0, none⟩) 1 1] 33)).alloc (.cells #[.slice ax x.flat.length cx, .slice (some ⟨w5.heap.size + 1, 0, none⟩) 1 1] 33)) W' → W'.cell? ⟨w5.heap.size + 1 + 1, 0, none⟩ = some (.slice ax x.flat.length cx) ∧ W'.cell? ⟨w5.heap.size + 1 + 1, 1, none⟩ = some (.slice (some ⟨w5.heap.size, 0, none⟩) 1 1) ∧ W'.cell? ⟨w5.heap.size + 1 + 1 + 1, 0, none⟩ = some (.slice ax x.flat.length cx) ∧ W'.cell? ⟨w5.heap.size + 1 + 1 + 1, 1, none⟩ = some (.slice (some ⟨w5.heap.size + 1, 0, none⟩) 1 1)) := fun W' hw => ⟨keep k0 hw, keep k1 hw, keep k2 hw, keep k3 hw⟩
  clear hrt hru hrx hry hxa hya n1 n2 n3 n4 l1 l2 m2 m3 hb hb1 hb2 hb3 hb4 hb5 k0 k1 k2 k3 hh h
  go_wp2_with fail
  generalize ((((w5.alloc (.cells #[.bool false, .slice ay y.flat.length cy] 49)).alloc (.cells #[.bool neg, .slice ay y.flat.length cy] 49)).alloc (.cells #[.slice ax x.flat.length cx, .slice (some ⟨w5.heap.size, 0, none⟩) 1 1] 33)).alloc (.cells #[.slice ax x.flat.length cx, .slice (some ⟨w5.heap.size + 1, 0, none⟩) 1 1] 33)) = X at *
  generalize w5.heap.size = h at *
  -- what is told
  obtain ⟨q, hq⟩ : ∃ q, decide (t.flat = u.flat) = q := ⟨_, rfl⟩
  obtain ⟨s1, hs1⟩ : ∃ s, s = tx (textT t) := ⟨_, rfl⟩
  obtain ⟨s2, hs2⟩ : ∃ s, s = tx (textT u) := ⟨_, rfl⟩
  have hq1 : (s1.toList == s2.toList) = q := by
    rw [hs1, hs2, tx_eq, ← hq, Bool.eq_iff_iff]
    simp only [decide_eq_true_eq]
    rw [Tx.text_same hto huo]
    constructor
    · rintro rfl; rfl
    · intro e
      exact (Tx.tm_eq t u [] [] hto huo (by rw [e])).1
  have ltt := text_small hto (by omega)
  have ltu := text_small huo (by omega)
  have ltx := text_small hxt.ok (by have := hxt.len; omega)
  have lly := litT_small neg hyt.ok (by have := hyt.len; omega)
  have lly0 := litT_small false hyt.ok (by have := hyt.len; omega)
  have hpX : ∀ W, Below X.heap.size X W → Pow W := fun W hw => Hp.pow_then HP.out (HBX.out.then hw)
  have HT1 : Hid (∀ W, Below X.heap.size X W → Calls Tryd.prog 16 #[.slice at2 t.flat.length ct2] W fun e w' => e = .returned (.string s1) ∧ Below W.heap.size W w') := fun W hw => by
    rw [hs1]; exact pterm_any t hto (by omega) at2 ct2 W (by omega) (hpX W hw) (HRT.out.below hw)
  have HT2 : Hid (∀ W, Below X.heap.size X W → Calls Tryd.prog 16 #[.slice au u.flat.length cu] W fun e w' => e = .returned (.string s2) ∧ Below W.heap.size W w') := fun W hw => by
    rw [hs2]; exact pterm_any u huo (by omega) au cu W (by omega) (hpX W hw) (HRU.out.below hw)
  have HSM : Hid (∀ W, Below X.heap.size X W → Calls Tryd.prog 26 #[.slice at2 t.flat.length ct2, .slice au u.flat.length cu] W fun e w' => e = .returned (.bool q) ∧ Below W.heap.size W w') := fun W hw => by
    rw [← hq]; exact refsame_any at2 ct2 au cu W t.flat u.flat (HRT.out.below hw) (HRU.out.below hw)
  have okc : ∀ n : Bool, (⟨x, [(n, y)]⟩ : Ct).ok := fun n => ⟨hxt.ok, by have := hxt.len; show x.flat.length ≤ 200; omega, fun z hz => by rw [List.mem_singleton.1 hz]; exact hyt.ok, fun z hz => by rw [List.mem_singleton.1 hz]; have := hyt.len; show y.flat.length ≤ 200; omega⟩
  have okc0 : (⟨x, []⟩ : Ct).ok := ⟨hxt.ok, by have := hxt.len; show x.flat.length ≤ 200; omega, fun z hz => (by cases hz), fun z hz => (by cases hz)⟩
  obtain ⟨s3, hs3⟩ : ∃ s, s = tx (⟨x, [(false, y)]⟩ : Ct).text := ⟨_, rfl⟩
  obtain ⟨s4, hs4⟩ : ∃ s, s = tx (⟨x, [(neg, y)]⟩ : Ct).text := ⟨_, rfl⟩
  obtain ⟨s5, hs5⟩ : ∃ s, s = tx (⟨x, []⟩ : Ct).text := ⟨_, rfl⟩
  have HC1 : Hid (∀ W, Below X.heap.size X W → Calls Tryd.prog 13 #[.agg #[.slice ax x.flat.length cx, .slice (some ⟨h, 0, none⟩) 1 1]] W fun e w' => e = .returned (.string s3) ∧ Below W.heap.size W w') := fun W hw =>
    clause_at ⟨x, [(false, y)]⟩ (okc false) 1 rfl hs3 (by rw [one_text1]; simp; omega) ax cx _ _ W (hpX W hw) (HRX.out.below hw) (HL1.out.below hw) rfl
  have HC2 : Hid (∀ W, Below X.heap.size X W → Calls Tryd.prog 13 #[.agg #[.slice ax x.flat.length cx, .slice (some ⟨h + 1, 0, none⟩) 1 1]] W fun e w' => e = .returned (.string s4) ∧ Below W.heap.size W w') := fun W hw =>
    clause_at ⟨x, [(neg, y)]⟩ (okc neg) 1 rfl hs4 (by rw [one_text1]; simp; omega) ax cx _ _ W (hpX W hw) (HRX.out.below hw) (HL2.out.below hw) rfl
  have HC3 : Hid (∀ W, Below X.heap.size X W → Calls Tryd.prog 13 #[.agg #[.slice ax x.flat.length cx, .slice none 0 0]] W fun e w' => e = .returned (.string s5) ∧ Below W.heap.size W w') := fun W hw =>
    clause_at ⟨x, []⟩ okc0 0 rfl hs5 (by rw [one_text0]; simp; omega) ax cx none 0 W (hpX W hw) (HRX.out.below hw) (Row.empty _ none 0 (by omega) (fun _ => rfl) : Row W none 0 ([] : List Lt)) rfl
  have hq5 : (s3.toList == s5.toList) = false := by
    rw [hs3, hs5, tx_eq, decide_eq_false]
    intro e
    have := congrArg List.length e
    rw [one_text1, one_text0] at this
    simp at this
  have hq6 : (s3.toList != s5.toList) = true := by unfold bne; rw [hq5]; rfl
  have HSQ : Hid (∀ W', Below X.heap.size X W' → (fun w' : World => w'.cell? ⟨h + 1 + 1, 0, none⟩ = some (.slice ax x.flat.length cx) ∧ w'.cell? ⟨h + 1 + 1, 1, none⟩ = some (.slice (some ⟨h, 0, none⟩) 1 1) ∧ w'.cell? ⟨h + 1 + 1 + 1, 0, none⟩ = some (.slice ax x.flat.length cx) ∧ w'.cell? ⟨h + 1 + 1 + 1, 1, none⟩ = some (.slice (some ⟨h + 1, 0, none⟩) 1 1)) W') := fun W' hw => HK.out W' hw
  have hcd := (Below.refl X.heap.size X).drew
  cases neg with
  | false =>
    have hq4 : (s3.toList == s4.toList) = true := by rw [hs3, hs4, tx_eq]; simp
    clear hs1 hs2 hs3 hs4 hs5 hq okc okc0 hpX hxt hyt hto huo
    refine wp_region_noPanic ?_
    refine wp_region_held_drew (S := (fun w' : World => w'.cell? ⟨h + 1 + 1, 0, none⟩ = some (.slice ax x.flat.length cx) ∧ w'.cell? ⟨h + 1 + 1, 1, none⟩ = some (.slice (some ⟨h, 0, none⟩) 1 1) ∧ w'.cell? ⟨h + 1 + 1 + 1, 0, none⟩ = some (.slice ax x.flat.length cx) ∧ w'.cell? ⟨h + 1 + 1 + 1, 1, none⟩ = some (.slice (some ⟨h + 1, 0, none⟩) 1 1))) (by kernel_rfl) (HSQ.out _ hcd) (fun hSd => ?_)
    refine wpAnyH_take (i := 0) (oi := _) (v := ?_) rfl (by kernel_rfl) (by kernel_rfl) (by kernel_rfl) (fun _ _ _ h => h) (Or.inl ⟨by rfl, ?_⟩) (by assumption) ?_
    rotate_left
    · (intro w' hSw; (try dsimp only at hSw); go_simp; try with_reducible rfl)
    (try simp only [Act.put, List.setIfInBounds_toArray, List.set_cons_zero, List.set_cons_succ])
    refine wpAnyH_take (i := 2) (oi := _) (v := ?_) rfl (by kernel_rfl) (by kernel_rfl) (by kernel_rfl) (fun _ _ _ h => h) (Or.inl ⟨by rfl, ?_⟩) (by assumption) ?_
    rotate_left
    · (intro w' hSw; (try dsimp only at hSw); go_simp; try with_reducible rfl)
    (try simp only [Act.put, List.setIfInBounds_toArray, List.set_cons_zero, List.set_cons_succ])
    refine wpAnyH_take (i := 5) (oi := _) (v := ?_) rfl (by kernel_rfl) (by kernel_rfl) (by kernel_rfl) (fun _ _ _ h => h) (Or.inl ⟨by rfl, ?_⟩) (by assumption) ?_
    rotate_left
    · (intro w' hSw; (try dsimp only at hSw); go_simp; try with_reducible rfl)
    (try simp only [Act.put, List.setIfInBounds_toArray, List.set_cons_zero, List.set_cons_succ])
    refine wpAnyH_take (i := 6) (oi := _) (v := ?_) rfl (by kernel_rfl) (by kernel_rfl) (by kernel_rfl) (fun _ _ _ h => h) (Or.inl ⟨by rfl, ?_⟩) (by assumption) ?_
    rotate_left
    · (intro w' hSw; (try dsimp only at hSw); go_simp; try with_reducible rfl)
    (try simp only [Act.put, List.setIfInBounds_toArray, List.set_cons_zero, List.set_cons_succ])
    refine wpAnyH_ready (rs := [1]) (by kernel_rfl) (by simp) ?_
    refine AllReadyH.cons (o := _) rfl (fun Kq hKq => ?_) AllReadyH.nil
    go_simp
    refine (HT1.out _ hcd).mono ?_
    rintro e V1 ⟨rfl, hq1⟩
    have hc1 := hcd.then hq1
    try dsimp only
    refine hKq.out _ _ (HSQ.out _ hc1) (fun _ => ?_)
    clear hKq Kq
    (try simp only [Act.put, List.setIfInBounds_toArray, List.set_cons_zero, List.set_cons_succ])
    refine wpAnyH_ready (rs := [3]) (by kernel_rfl) (by simp) ?_
    refine AllReadyH.cons (o := _) rfl (fun Kq hKq => ?_) AllReadyH.nil
    go_simp
    refine (HT2.out _ hc1).mono ?_
    rintro e V2 ⟨rfl, hq2⟩
    have hc2 := hc1.then hq2
    try dsimp only
    refine hKq.out _ _ (HSQ.out _ hc2) (fun _ => ?_)
    clear hKq Kq
    (try simp only [Act.put, List.setIfInBounds_toArray, List.set_cons_zero, List.set_cons_succ])
    refine wpAnyH_take (i := 4) (oi := _) (v := ?_) rfl (by kernel_rfl) (by kernel_rfl) (by kernel_rfl) (fun _ _ _ h => h) (Or.inl ⟨by rfl, ?_⟩) (by assumption) ?_
    rotate_left
    · (intro w' hSw; (try dsimp only at hSw); go_simp; try with_reducible rfl)
    (try simp only [Act.put, List.setIfInBounds_toArray, List.set_cons_zero, List.set_cons_succ])
    refine wpAnyH_ready (rs := [7]) (by kernel_rfl) (by simp) ?_
    refine AllReadyH.cons (o := _) rfl (fun Kq hKq => ?_) AllReadyH.nil
    go_simp
    refine (HSM.out _ hc2).mono ?_
    rintro e V3 ⟨rfl, hq3⟩
    have hc3 := hc2.then hq3
    try dsimp only
    refine hKq.out _ _ (HSQ.out _ hc3) (fun _ => ?_)
    clear hKq Kq
    (try simp only [Act.put, List.setIfInBounds_toArray, List.set_cons_zero, List.set_cons_succ])
    refine wpAnyH_take (i := 8) (oi := _) (v := ?_) rfl (by kernel_rfl) (by kernel_rfl) (by kernel_rfl) (fun _ _ _ h => h) (Or.inl ⟨by rfl, ?_⟩) (by assumption) ?_
    rotate_left
    · (intro w' hSw; (try dsimp only at hSw); go_simp; try with_reducible rfl)
    (try simp only [Act.put, List.setIfInBounds_toArray, List.set_cons_zero, List.set_cons_succ])
    refine wpAnyH_take (i := 9) (oi := _) (v := ?_) rfl (by kernel_rfl) (by kernel_rfl) (by kernel_rfl) (fun _ _ _ h => h) (Or.inl ⟨by rfl, ?_⟩) (by assumption) ?_
    rotate_left
    · (intro w' hSw; (try dsimp only at hSw); go_simp; try with_reducible rfl)
    (try simp only [Act.put, List.setIfInBounds_toArray, List.set_cons_zero, List.set_cons_succ])
    refine wpAnyH_take (i := 10) (oi := _) (v := ?_) rfl (by kernel_rfl) (by kernel_rfl) (by kernel_rfl) (fun _ _ _ h => h) (Or.inl ⟨by rfl, ?_⟩) (by assumption) ?_
    rotate_left
    · (intro w' hSw; (try dsimp only at hSw); go_simp; try with_reducible rfl)
    (try simp only [Act.put, List.setIfInBounds_toArray, List.set_cons_zero, List.set_cons_succ])
    refine wpAnyH_take (i := 12) (oi := _) (v := ?_) rfl (by kernel_rfl) (by kernel_rfl) (by kernel_rfl) (fun _ _ _ h => h) (Or.inl ⟨by rfl, ?_⟩) (by assumption) ?_
    rotate_left
    · (intro w' hSw; (try dsimp only at hSw); go_simp; try with_reducible rfl)
    (try simp only [Act.put, List.setIfInBounds_toArray, List.set_cons_zero, List.set_cons_succ])
    refine wpAnyH_take (i := 15) (oi := _) (v := ?_) rfl (by kernel_rfl) (by kernel_rfl) (by kernel_rfl) (fun _ _ _ h => h) (Or.inl ⟨by rfl, ?_⟩) (by assumption) ?_
    rotate_left
    · (intro w' hSw; (try dsimp only at hSw); go_simp; try with_reducible rfl)
    (try simp only [Act.put, List.setIfInBounds_toArray, List.set_cons_zero, List.set_cons_succ])
    refine wpAnyH_take (i := 16) (oi := _) (v := ?_) rfl (by kernel_rfl) (by kernel_rfl) (by kernel_rfl) (fun _ _ _ h => h) (Or.inl ⟨by rfl, ?_⟩) (by assumption) ?_
    rotate_left
    · (intro w' hSw; (try dsimp only at hSw); go_simp; try with_reducible rfl)
    (try simp only [Act.put, List.setIfInBounds_toArray, List.set_cons_zero, List.set_cons_succ])
    refine wpAnyH_ready (rs := [11]) (by kernel_rfl) (by simp) ?_
    refine AllReadyH.cons (o := _) rfl (fun Kq hKq => ?_) AllReadyH.nil
    go_simp
    refine (HC1.out _ hc3).mono ?_
    rintro e V4 ⟨rfl, hq4⟩
    have hc4 := hc3.then hq4
    try dsimp only
    refine hKq.out _ _ (HSQ.out _ hc4) (fun _ => ?_)
    clear hKq Kq
    (try simp only [Act.put, List.setIfInBounds_toArray, List.set_cons_zero, List.set_cons_succ])
    refine wpAnyH_ready (rs := [13]) (by kernel_rfl) (by simp) ?_
    refine AllReadyH.cons (o := _) rfl (fun Kq hKq => ?_) AllReadyH.nil
    go_simp
    refine (HC2.out _ hc4).mono ?_
    rintro e V5 ⟨rfl, hq5⟩
    have hc5 := hc4.then hq5
    try dsimp only
    refine hKq.out _ _ (HSQ.out _ hc5) (fun _ => ?_)
    clear hKq Kq
    (try simp only [Act.put, List.setIfInBounds_toArray, List.set_cons_zero, List.set_cons_succ])
    refine wpAnyH_take (i := 14) (oi := _) (v := ?_) rfl (by kernel_rfl) (by kernel_rfl) (by kernel_rfl) (fun _ _ _ h => h) (Or.inl ⟨by rfl, ?_⟩) (by assumption) ?_
    rotate_left
    · (intro w' hSw; (try dsimp only at hSw); go_simp; try with_reducible rfl)
    (try simp only [Act.put, List.setIfInBounds_toArray, List.set_cons_zero, List.set_cons_succ])
    refine wpAnyH_take (i := 17) (oi := _) (v := ?_) rfl (by kernel_rfl) (by kernel_rfl) (by kernel_rfl) (fun _ _ _ h => h) (Or.inl ⟨by rfl, ?_⟩) (by assumption) ?_
    rotate_left
    · (intro w' hSw; (try dsimp only at hSw); go_simp; try with_reducible rfl)
    (try simp only [Act.put, List.setIfInBounds_toArray, List.set_cons_zero, List.set_cons_succ])
    refine wpAnyH_take (i := 18) (oi := _) (v := ?_) rfl (by kernel_rfl) (by kernel_rfl) (by kernel_rfl) (fun _ _ _ h => h) (Or.inl ⟨by rfl, ?_⟩) (by assumption) ?_
    rotate_left
    · (intro w' hSw; (try dsimp only at hSw); go_simp; try with_reducible rfl)
    (try simp only [Act.put, List.setIfInBounds_toArray, List.set_cons_zero, List.set_cons_succ])
    refine wpAnyH_take (i := 19) (oi := _) (v := ?_) rfl (by kernel_rfl) (by kernel_rfl) (by kernel_rfl) (fun _ _ _ h => h) (Or.inl ⟨by rfl, ?_⟩) (by assumption) ?_
    rotate_left
    · (intro w' hSw; (try dsimp only at hSw); go_simp; try with_reducible rfl)
    (try simp only [Act.put, List.setIfInBounds_toArray, List.set_cons_zero, List.set_cons_succ])
    refine wpAnyH_take (i := 20) (oi := _) (v := ?_) rfl (by kernel_rfl) (by kernel_rfl) (by kernel_rfl) (fun _ _ _ h => h) (Or.inl ⟨by rfl, ?_⟩) (by assumption) ?_
    rotate_left
    · (intro w' hSw; (try dsimp only at hSw); go_simp; try with_reducible rfl)
    (try simp only [Act.put, List.setIfInBounds_toArray, List.set_cons_zero, List.set_cons_succ])
    refine wpAnyH_take (i := 22) (oi := _) (v := ?_) rfl (by kernel_rfl) (by kernel_rfl) (by kernel_rfl) (fun _ _ _ h => h) (Or.inl ⟨by rfl, ?_⟩) (by assumption) ?_
    rotate_left
    · (intro w' hSw; (try dsimp only at hSw); go_simp; try with_reducible rfl)
    (try simp only [Act.put, List.setIfInBounds_toArray, List.set_cons_zero, List.set_cons_succ])
    refine wpAnyH_take (i := 23) (oi := _) (v := ?_) rfl (by kernel_rfl) (by kernel_rfl) (by kernel_rfl) (fun _ _ _ h => h) (Or.inl ⟨by rfl, ?_⟩) (by assumption) ?_
    rotate_left
    · (intro w' hSw; (try dsimp only at hSw); go_simp; try with_reducible rfl)
    (try simp only [Act.put, List.setIfInBounds_toArray, List.set_cons_zero, List.set_cons_succ])
    refine wpAnyH_ready (rs := [21]) (by kernel_rfl) (by simp) ?_
    refine AllReadyH.cons (o := _) rfl (fun Kq hKq => ?_) AllReadyH.nil
    go_simp
    refine (HC1.out _ hc5).mono ?_
    rintro e V6 ⟨rfl, hq6⟩
    have hc6 := hc5.then hq6
    try dsimp only
    refine hKq.out _ _ (HSQ.out _ hc6) (fun _ => ?_)
    clear hKq Kq
    (try simp only [Act.put, List.setIfInBounds_toArray, List.set_cons_zero, List.set_cons_succ])
    refine wpAnyH_ready (rs := [24]) (by kernel_rfl) (by simp) ?_
    refine AllReadyH.cons (o := _) rfl (fun Kq hKq => ?_) AllReadyH.nil
    go_simp
    refine (HC3.out _ hc6).mono ?_
    rintro e V7 ⟨rfl, hq7⟩
    have hc7 := hc6.then hq7
    try dsimp only
    refine hKq.out _ _ (HSQ.out _ hc7) (fun _ => ?_)
    clear hKq Kq
    (try simp only [Act.put, List.setIfInBounds_toArray, List.set_cons_zero, List.set_cons_succ])
    refine wpAnyH_take (i := 25) (oi := _) (v := ?_) rfl (by kernel_rfl) (by kernel_rfl) (by kernel_rfl) (fun _ _ _ h => h) (Or.inl ⟨by rfl, ?_⟩) (by assumption) ?_
    rotate_left
    · (intro w' hSw; (try dsimp only at hSw); go_simp; try with_reducible rfl)
    (try simp only [Act.put, List.setIfInBounds_toArray, List.set_cons_zero, List.set_cons_succ])
    refine wpAnyH_take (i := 26) (oi := _) (v := ?_) rfl (by kernel_rfl) (by kernel_rfl) (by kernel_rfl) (fun _ _ _ h => h) (Or.inl ⟨by rfl, ?_⟩) (by assumption) ?_
    rotate_left
    · (intro w' hSw; (try dsimp only at hSw); go_simp; try with_reducible rfl)
    (try simp only [Act.put, List.setIfInBounds_toArray, List.set_cons_zero, List.set_cons_succ])
    refine wpAnyH_take (i := 27) (oi := _) (v := ?_) rfl (by kernel_rfl) (by kernel_rfl) (by kernel_rfl) (fun _ _ _ h => h) (Or.inl ⟨by rfl, ?_⟩) (by assumption) ?_
    rotate_left
    · (intro w' hSw; (try dsimp only at hSw); go_simp; try with_reducible rfl)
    (try simp only [Act.put, List.setIfInBounds_toArray, List.set_cons_zero, List.set_cons_succ])
    refine wpAnyH_take (i := 28) (oi := _) (v := ?_) rfl (by kernel_rfl) (by kernel_rfl) (by kernel_rfl) (fun _ _ _ h => h) (Or.inl ⟨by rfl, ?_⟩) (by assumption) ?_
    rotate_left
    · (intro w' hSw; (try dsimp only at hSw); go_simp; try with_reducible rfl)
    (try simp only [Act.put, List.setIfInBounds_toArray, List.set_cons_zero, List.set_cons_succ])
    refine wpAnyH_take (i := 29) (oi := _) (v := ?_) rfl (by kernel_rfl) (by kernel_rfl) (by kernel_rfl) (fun _ _ _ h => h) (Or.inl ⟨by rfl, ?_⟩) (by assumption) ?_
    rotate_left
    · (intro w' hSw; (try dsimp only at hSw); go_simp; try with_reducible rfl)
    (try simp only [Act.put, List.setIfInBounds_toArray, List.set_cons_zero, List.set_cons_succ])
    refine wpAnyH_ready (rs := [30]) (by kernel_rfl) (by simp) ?_
    refine AllReadyH.cons (o := _) rfl (fun Kq hKq => ?_) AllReadyH.nil
    go_simp
    try dsimp only
    refine hKq.out _ _ (HSQ.out _ hc7) (fun _ => ?_)
    clear hKq Kq
    (try simp only [Act.put, List.setIfInBounds_toArray, List.set_cons_zero, List.set_cons_succ])
    refine wpAnyH_done (by kernel_rfl) (NoPanic.normal ?_) _
    have HBZ := mkHid hc7
    clear hc1 hc2 hc3 hc4 hc5 hc6 hc7 hq1 hq2 hq3 hq4 hq5 hq6 hq7 hcd hSd
    go_wp2_with fail
    go_ret
    exact ⟨rfl, HBX.out.then HBZ.out⟩
  | true =>
    have hq4 : (s3.toList == s4.toList) = false := by
      rw [hs3, hs4, tx_eq, decide_eq_false]
      intro e
      have := congrArg List.length e
      rw [one_text1, one_text1] at this
      simp [litT] at this
    clear hs1 hs2 hs3 hs4 hs5 hq okc okc0 hpX hxt hyt hto huo
    refine wp_region_noPanic ?_
    refine wp_region_held_drew (S := (fun w' : World => w'.cell? ⟨h + 1 + 1, 0, none⟩ = some (.slice ax x.flat.length cx) ∧ w'.cell? ⟨h + 1 + 1, 1, none⟩ = some (.slice (some ⟨h, 0, none⟩) 1 1) ∧ w'.cell? ⟨h + 1 + 1 + 1, 0, none⟩ = some (.slice ax x.flat.length cx) ∧ w'.cell? ⟨h + 1 + 1 + 1, 1, none⟩ = some (.slice (some ⟨h + 1, 0, none⟩) 1 1))) (by kernel_rfl) (HSQ.out _ hcd) (fun hSd => ?_)
    refine wpAnyH_take (i := 0) (oi := _) (v := ?_) rfl (by kernel_rfl) (by kernel_rfl) (by kernel_rfl) (fun _ _ _ h => h) (Or.inl ⟨by rfl, ?_⟩) (by assumption) ?_
    rotate_left
    · (intro w' hSw; (try dsimp only at hSw); go_simp; try with_reducible rfl)
    (try simp only [Act.put, List.setIfInBounds_toArray, List.set_cons_zero, List.set_cons_succ])
    refine wpAnyH_take (i := 2) (oi := _) (v := ?_) rfl (by kernel_rfl) (by kernel_rfl) (by kernel_rfl) (fun _ _ _ h => h) (Or.inl ⟨by rfl, ?_⟩) (by assumption) ?_
    rotate_left
    · (intro w' hSw; (try dsimp only at hSw); go_simp; try with_reducible rfl)
    (try simp only [Act.put, List.setIfInBounds_toArray, List.set_cons_zero, List.set_cons_succ])
    refine wpAnyH_take (i := 5) (oi := _) (v := ?_) rfl (by kernel_rfl) (by kernel_rfl) (by kernel_rfl) (fun _ _ _ h => h) (Or.inl ⟨by rfl, ?_⟩) (by assumption) ?_
    rotate_left
    · (intro w' hSw; (try dsimp only at hSw); go_simp; try with_reducible rfl)
    (try simp only [Act.put, List.setIfInBounds_toArray, List.set_cons_zero, List.set_cons_succ])
    refine wpAnyH_take (i := 6) (oi := _) (v := ?_) rfl (by kernel_rfl) (by kernel_rfl) (by kernel_rfl) (fun _ _ _ h => h) (Or.inl ⟨by rfl, ?_⟩) (by assumption) ?_
    rotate_left
    · (intro w' hSw; (try dsimp only at hSw); go_simp; try with_reducible rfl)
    (try simp only [Act.put, List.setIfInBounds_toArray, List.set_cons_zero, List.set_cons_succ])
    refine wpAnyH_ready (rs := [1]) (by kernel_rfl) (by simp) ?_
    refine AllReadyH.cons (o := _) rfl (fun Kq hKq => ?_) AllReadyH.nil
    go_simp
    refine (HT1.out _ hcd).mono ?_
    rintro e V1 ⟨rfl, hq1⟩
    have hc1 := hcd.then hq1
    try dsimp only
    refine hKq.out _ _ (HSQ.out _ hc1) (fun _ => ?_)
    clear hKq Kq
    (try simp only [Act.put, List.setIfInBounds_toArray, List.set_cons_zero, List.set_cons_succ])
    refine wpAnyH_ready (rs := [3]) (by kernel_rfl) (by simp) ?_
    refine AllReadyH.cons (o := _) rfl (fun Kq hKq => ?_) AllReadyH.nil
    go_simp
    refine (HT2.out _ hc1).mono ?_
    rintro e V2 ⟨rfl, hq2⟩
    have hc2 := hc1.then hq2
    try dsimp only
    refine hKq.out _ _ (HSQ.out _ hc2) (fun _ => ?_)
    clear hKq Kq
    (try simp only [Act.put, List.setIfInBounds_toArray, List.set_cons_zero, List.set_cons_succ])
    refine wpAnyH_take (i := 4) (oi := _) (v := ?_) rfl (by kernel_rfl) (by kernel_rfl) (by kernel_rfl) (fun _ _ _ h => h) (Or.inl ⟨by rfl, ?_⟩) (by assumption) ?_
    rotate_left
    · (intro w' hSw; (try dsimp only at hSw); go_simp; try with_reducible rfl)
    (try simp only [Act.put, List.setIfInBounds_toArray, List.set_cons_zero, List.set_cons_succ])
    refine wpAnyH_ready (rs := [7]) (by kernel_rfl) (by simp) ?_
    refine AllReadyH.cons (o := _) rfl (fun Kq hKq => ?_) AllReadyH.nil
    go_simp
    refine (HSM.out _ hc2).mono ?_
    rintro e V3 ⟨rfl, hq3⟩
    have hc3 := hc2.then hq3
    try dsimp only
    refine hKq.out _ _ (HSQ.out _ hc3) (fun _ => ?_)
    clear hKq Kq
    (try simp only [Act.put, List.setIfInBounds_toArray, List.set_cons_zero, List.set_cons_succ])
    refine wpAnyH_take (i := 8) (oi := _) (v := ?_) rfl (by kernel_rfl) (by kernel_rfl) (by kernel_rfl) (fun _ _ _ h => h) (Or.inl ⟨by rfl, ?_⟩) (by assumption) ?_
    rotate_left
    · (intro w' hSw; (try dsimp only at hSw); go_simp; try with_reducible rfl)
    (try simp only [Act.put, List.setIfInBounds_toArray, List.set_cons_zero, List.set_cons_succ])
    refine wpAnyH_take (i := 9) (oi := _) (v := ?_) rfl (by kernel_rfl) (by kernel_rfl) (by kernel_rfl) (fun _ _ _ h => h) (Or.inl ⟨by rfl, ?_⟩) (by assumption) ?_
    rotate_left
    · (intro w' hSw; (try dsimp only at hSw); go_simp; try with_reducible rfl)
    (try simp only [Act.put, List.setIfInBounds_toArray, List.set_cons_zero, List.set_cons_succ])
    refine wpAnyH_take (i := 10) (oi := _) (v := ?_) rfl (by kernel_rfl) (by kernel_rfl) (by kernel_rfl) (fun _ _ _ h => h) (Or.inl ⟨by rfl, ?_⟩) (by assumption) ?_
    rotate_left
    · (intro w' hSw; (try dsimp only at hSw); go_simp; try with_reducible rfl)
    (try simp only [Act.put, List.setIfInBounds_toArray, List.set_cons_zero, List.set_cons_succ])
    refine wpAnyH_take (i := 12) (oi := _) (v := ?_) rfl (by kernel_rfl) (by kernel_rfl) (by kernel_rfl) (fun _ _ _ h => h) (Or.inl ⟨by rfl, ?_⟩) (by assumption) ?_
    rotate_left
    · (intro w' hSw; (try dsimp only at hSw); go_simp; try with_reducible rfl)
    (try simp only [Act.put, List.setIfInBounds_toArray, List.set_cons_zero, List.set_cons_succ])
    refine wpAnyH_take (i := 15) (oi := _) (v := ?_) rfl (by kernel_rfl) (by kernel_rfl) (by kernel_rfl) (fun _ _ _ h => h) (Or.inl ⟨by rfl, ?_⟩) (by assumption) ?_
    rotate_left
    · (intro w' hSw; (try dsimp only at hSw); go_simp; try with_reducible rfl)
    (try simp only [Act.put, List.setIfInBounds_toArray, List.set_cons_zero, List.set_cons_succ])
    refine wpAnyH_take (i := 16) (oi := _) (v := ?_) rfl (by kernel_rfl) (by kernel_rfl) (by kernel_rfl) (fun _ _ _ h => h) (Or.inl ⟨by rfl, ?_⟩) (by assumption) ?_
    rotate_left
    · (intro w' hSw; (try dsimp only at hSw); go_simp; try with_reducible rfl)
    (try simp only [Act.put, List.setIfInBounds_toArray, List.set_cons_zero, List.set_cons_succ])
    refine wpAnyH_ready (rs := [11]) (by kernel_rfl) (by simp) ?_
    refine AllReadyH.cons (o := _) rfl (fun Kq hKq => ?_) AllReadyH.nil
    go_simp
    refine (HC1.out _ hc3).mono ?_
    rintro e V4 ⟨rfl, hq4⟩
    have hc4 := hc3.then hq4
    try dsimp only
    refine hKq.out _ _ (HSQ.out _ hc4) (fun _ => ?_)
    clear hKq Kq
    (try simp only [Act.put, List.setIfInBounds_toArray, List.set_cons_zero, List.set_cons_succ])
    refine wpAnyH_ready (rs := [13]) (by kernel_rfl) (by simp) ?_
    refine AllReadyH.cons (o := _) rfl (fun Kq hKq => ?_) AllReadyH.nil
    go_simp
    refine (HC2.out _ hc4).mono ?_
    rintro e V5 ⟨rfl, hq5⟩
    have hc5 := hc4.then hq5
    try dsimp only
    refine hKq.out _ _ (HSQ.out _ hc5) (fun _ => ?_)
    clear hKq Kq
    (try simp only [Act.put, List.setIfInBounds_toArray, List.set_cons_zero, List.set_cons_succ])
    refine wpAnyH_take (i := 14) (oi := _) (v := ?_) rfl (by kernel_rfl) (by kernel_rfl) (by kernel_rfl) (fun _ _ _ h => h) (Or.inl ⟨by rfl, ?_⟩) (by assumption) ?_
    rotate_left
    · (intro w' hSw; (try dsimp only at hSw); go_simp; try with_reducible rfl)
    (try simp only [Act.put, List.setIfInBounds_toArray, List.set_cons_zero, List.set_cons_succ])
    refine wpAnyH_take (i := 17) (oi := _) (v := ?_) rfl (by kernel_rfl) (by kernel_rfl) (by kernel_rfl) (fun _ _ _ h => h) (Or.inl ⟨by rfl, ?_⟩) (by assumption) ?_
    rotate_left
    · (intro w' hSw; (try dsimp only at hSw); go_simp; try with_reducible rfl)
    (try simp only [Act.put, List.setIfInBounds_toArray, List.set_cons_zero, List.set_cons_succ])
    refine wpAnyH_take (i := 18) (oi := _) (v := ?_) rfl (by kernel_rfl) (by kernel_rfl) (by kernel_rfl) (fun _ _ _ h => h) (Or.inl ⟨by rfl, ?_⟩) (by assumption) ?_
    rotate_left
    · (intro w' hSw; (try dsimp only at hSw); go_simp; try with_reducible rfl)
    (try simp only [Act.put, List.setIfInBounds_toArray, List.set_cons_zero, List.set_cons_succ])
    refine wpAnyH_take (i := 19) (oi := _) (v := ?_) rfl (by kernel_rfl) (by kernel_rfl) (by kernel_rfl) (fun _ _ _ h => h) (Or.inl ⟨by rfl, ?_⟩) (by assumption) ?_
    rotate_left
    · (intro w' hSw; (try dsimp only at hSw); go_simp; try with_reducible rfl)
    (try simp only [Act.put, List.setIfInBounds_toArray, List.set_cons_zero, List.set_cons_succ])
    refine wpAnyH_take (i := 20) (oi := _) (v := ?_) rfl (by kernel_rfl) (by kernel_rfl) (by kernel_rfl) (fun _ _ _ h => h) (Or.inl ⟨by rfl, ?_⟩) (by assumption) ?_
    rotate_left
    · (intro w' hSw; (try dsimp only at hSw); go_simp; try with_reducible rfl)
    (try simp only [Act.put, List.setIfInBounds_toArray, List.set_cons_zero, List.set_cons_succ])
    refine wpAnyH_take (i := 22) (oi := _) (v := ?_) rfl (by kernel_rfl) (by kernel_rfl) (by kernel_rfl) (fun _ _ _ h => h) (Or.inl ⟨by rfl, ?_⟩) (by assumption) ?_
    rotate_left
    · (intro w' hSw; (try dsimp only at hSw); go_simp; try with_reducible rfl)
    (try simp only [Act.put, List.setIfInBounds_toArray, List.set_cons_zero, List.set_cons_succ])
    refine wpAnyH_take (i := 23) (oi := _) (v := ?_) rfl (by kernel_rfl) (by kernel_rfl) (by kernel_rfl) (fun _ _ _ h => h) (Or.inl ⟨by rfl, ?_⟩) (by assumption) ?_
    rotate_left
    · (intro w' hSw; (try dsimp only at hSw); go_simp; try with_reducible rfl)
    (try simp only [Act.put, List.setIfInBounds_toArray, List.set_cons_zero, List.set_cons_succ])
    refine wpAnyH_ready (rs := [21]) (by kernel_rfl) (by simp) ?_
    refine AllReadyH.cons (o := _) rfl (fun Kq hKq => ?_) AllReadyH.nil
    go_simp
    refine (HC1.out _ hc5).mono ?_
    rintro e V6 ⟨rfl, hq6⟩
    have hc6 := hc5.then hq6
    try dsimp only
    refine hKq.out _ _ (HSQ.out _ hc6) (fun _ => ?_)
    clear hKq Kq
    (try simp only [Act.put, List.setIfInBounds_toArray, List.set_cons_zero, List.set_cons_succ])
    refine wpAnyH_ready (rs := [24]) (by kernel_rfl) (by simp) ?_
    refine AllReadyH.cons (o := _) rfl (fun Kq hKq => ?_) AllReadyH.nil
    go_simp
    refine (HC3.out _ hc6).mono ?_
    rintro e V7 ⟨rfl, hq7⟩
    have hc7 := hc6.then hq7
    try dsimp only
    refine hKq.out _ _ (HSQ.out _ hc7) (fun _ => ?_)
    clear hKq Kq
    (try simp only [Act.put, List.setIfInBounds_toArray, List.set_cons_zero, List.set_cons_succ])
    refine wpAnyH_take (i := 25) (oi := _) (v := ?_) rfl (by kernel_rfl) (by kernel_rfl) (by kernel_rfl) (fun _ _ _ h => h) (Or.inl ⟨by rfl, ?_⟩) (by assumption) ?_
    rotate_left
    · (intro w' hSw; (try dsimp only at hSw); go_simp; try with_reducible rfl)
    (try simp only [Act.put, List.setIfInBounds_toArray, List.set_cons_zero, List.set_cons_succ])
    refine wpAnyH_take (i := 26) (oi := _) (v := ?_) rfl (by kernel_rfl) (by kernel_rfl) (by kernel_rfl) (fun _ _ _ h => h) (Or.inl ⟨by rfl, ?_⟩) (by assumption) ?_
    rotate_left
    · (intro w' hSw; (try dsimp only at hSw); go_simp; try with_reducible rfl)
    (try simp only [Act.put, List.setIfInBounds_toArray, List.set_cons_zero, List.set_cons_succ])
    refine wpAnyH_take (i := 27) (oi := _) (v := ?_) rfl (by kernel_rfl) (by kernel_rfl) (by kernel_rfl) (fun _ _ _ h => h) (Or.inl ⟨by rfl, ?_⟩) (by assumption) ?_
    rotate_left
    · (intro w' hSw; (try dsimp only at hSw); go_simp; try with_reducible rfl)
    (try simp only [Act.put, List.setIfInBounds_toArray, List.set_cons_zero, List.set_cons_succ])
    refine wpAnyH_take (i := 28) (oi := _) (v := ?_) rfl (by kernel_rfl) (by kernel_rfl) (by kernel_rfl) (fun _ _ _ h => h) (Or.inl ⟨by rfl, ?_⟩) (by assumption) ?_
    rotate_left
    · (intro w' hSw; (try dsimp only at hSw); go_simp; try with_reducible rfl)
    (try simp only [Act.put, List.setIfInBounds_toArray, List.set_cons_zero, List.set_cons_succ])
    refine wpAnyH_take (i := 29) (oi := _) (v := ?_) rfl (by kernel_rfl) (by kernel_rfl) (by kernel_rfl) (fun _ _ _ h => h) (Or.inl ⟨by rfl, ?_⟩) (by assumption) ?_
    rotate_left
    · (intro w' hSw; (try dsimp only at hSw); go_simp; try with_reducible rfl)
    (try simp only [Act.put, List.setIfInBounds_toArray, List.set_cons_zero, List.set_cons_succ])
    refine wpAnyH_ready (rs := [30]) (by kernel_rfl) (by simp) ?_
    refine AllReadyH.cons (o := _) rfl (fun Kq hKq => ?_) AllReadyH.nil
    go_simp
    try dsimp only
    refine hKq.out _ _ (HSQ.out _ hc7) (fun _ => ?_)
    clear hKq Kq
    (try simp only [Act.put, List.setIfInBounds_toArray, List.set_cons_zero, List.set_cons_succ])
    refine wpAnyH_done (by kernel_rfl) (NoPanic.normal ?_) _
    have HBZ := mkHid hc7
    clear hc1 hc2 hc3 hc4 hc5 hc6 hc7 hq1 hq2 hq3 hq4 hq5 hq6 hq7 hcd hSd
    go_wp2_with fail
    go_ret
    exact ⟨rfl, HBX.out.then HBZ.out⟩
end Go.Proofs.YtabjghmfjoefpaaDoor
namespace Go.Proofs.YtabjghmfjoefpaaDoor
open Go.RowKit
theorem lawPUnlike_any2 (w : World) (hp : Pow w) (xs : List Cel) (a : Option Addr) (cap : Nat) (hx : Row w a cap xs) (ys : List Cel) (b : Option Addr) (capb : Nat) (hy : Row w b capb ys) (neg : Bool) :
    Calls Tryd.prog 5 #[.slice a xs.length cap, .slice b ys.length capb, .bool neg] w fun e w' => e = .returned (.bool true) ∧ Below w.heap.size w w' :=
  lawPUnlike_any w hp xs ys a cap hx b capb hy neg
end Go.Proofs.YtabjghmfjoefpaaDoor
namespace Go.Proofs.YtabjghmfjoefpaaDoor
open Go.RowKit

set_option maxHeartbeats 1600000 in
theorem refnumber_any (a : Option Addr) (cap : Nat) (w : World) (xs : List Cel) (hr : Row w a cap xs) (hl : xs.length ≤ 1000000) (h0 : 0 < xs.length) :
    Calls Tryd.prog 27 #[.slice a xs.length cap] w fun e w' => ∃ a' cap', e = .returned (.slice a' (numL xs).length cap') ∧ Row w' a' cap' (numL xs) ∧ Below w.heap.size w w' := by
  have hm := hr.max
  have hle := hr.le
  have hfit := mkHid hr.fit
  have hvl := varsGo_length xs []
  rw [show varsGo [] xs = varsL xs from rfl, List.length_nil, Nat.zero_add] at hvl
  go_enter Tryd.func27, Tryd.ntmps27
  go_wp2_with (first
    | (go_at_call 25; refine (refvars_any a cap _ xs hr hl).mono ?_; rintro e w1 ⟨av, capv, rfl, hrv, hb1⟩)
    | (at_builtin; refine wpList_app rfl _ _ 22 rfl w1.heap.size 62 3 32 _ Tryd.underlying22 Tryd.infoCell rfl (by decide) (by decide) _ 0 [] rfl (World.ownsRow_made (base := w1.heap.size) (e := 62) (size := 3) w1 #[] 0 (Nat.le_refl _) (by unfold maxLen; omega) rfl) a xs.length cap (flat xs) rfl ((hr.below (hb1.new _)).src) (by omega) (by simp) ?_; intro v w2 hown _ hb2))
  rw [Nat.zero_add, List.nil_append] at hown
  have hb12 := ((Below.refl w1.heap.size w1).new (.cells #[] 62)).trans hb2
  have hbl2 := hb1.then hb12
  obtain ⟨g, cp, rfl, hg1, hg2, hg3, hg4⟩ := own_form hown h0
  have hrv2 := hrv.keeps (fresh_keeps (Keeps.of hb12) hg1)
  have hsz := hb1.size
  go_loopw [5] (fun i wr => ∃ k : Nat, k ≤ xs.length ∧ i = .int .i64 k ∧ wr.ownsRow w.heap.size 62 3 (.slice (some ⟨g, 0, none⟩) xs.length cp) xs.length (flat (upTo (numC (varsL xs)) xs k)) ∧ Below w.heap.size w wr ∧ Row (hide (some g) wr) av capv (varsL xs)) (fun i wr => xs.length - (intOf i).toNat)
  case atStart => exact ⟨0, Nat.zero_le _, rfl, by rw [upTo_zero]; exact own_mono hown hsz, hbl2, hrv2⟩
  case round =>
    clear hown hrv2
    obtain ⟨k, hk, rfl, hown, hbl, hrv⟩ := hrel
    have hgl := (hown.lt g rfl).2
    have hgb := (hown.lt g rfl).1
    by_cases hlt : k < xs.length
    · obtain ⟨o0, _, o2⟩ := own_cel hown (upTo_at _ _ hlt)
      have hf := hfit.out _ (List.getElem_mem hlt)
      by_cases h1 : xs[k].k = 1
      · have t1 : (xs[k].k == 1) = true := by simp [h1]
        go_wp2_with (go_at_call 48; refine (refplace_any av capv xs[k].n _ (varsL xs) (hrv.keeps (hide_keeps _ _))).mono ?_; rintro e w3 ⟨rfl, hb3⟩; have hown3 := own_below hown hb3; have o2' := keep o2 hb3; have hfz := own_free hown3 (k * 3 + 2); have HS := mkHid (own_store hown3 hlt (show numC (varsL xs) xs[k] = ⟨xs[k].k, xs[k].s, placeI (varsL xs) xs[k].n⟩ from if_pos h1)); clear h1 o0 o2)
        go_round
        case rel => exact ⟨k + 1, by omega, by go_num, HS.out, (hbl.then hb3).setCell (by show w.heap.size ≤ g; omega) _, (hrv.keeps (below_hide hb3 _)).keeps (grown_keeps (grown_set w3 g (k * 3 + 2) _))⟩
        case measure => simp [intOf]; omega
      · have t1 : (xs[k].k == 1) = false := by simp [h1]
        have HE := mkHid (upTo_same (numC (varsL xs)) xs hlt (if_neg h1))
        clear h1
        go_wp2
        go_round
        case rel => exact ⟨k + 1, by omega, by go_num, by rw [HE.out]; exact hown, hbl, hrv⟩
        case measure => simp [intOf]; omega
    · have hu := upTo_all (numC (varsL xs)) xs (k := k) (by omega)
      rw [hu] at hown
      have hml : (xs.map (numC (varsL xs))).length = xs.length := by simp
      have hfm : ∀ c ∈ xs.map (numC (varsL xs)), c.fit := fun c hc => by
        obtain ⟨c', hc', rfl⟩ := List.mem_map.1 hc
        exact numC_fit (by omega) (hfit.out c' hc')
      obtain ⟨a2, cap2, ev, hrow⟩ := own_row (xs := xs.map (numC (varsL xs))) (by rw [hml]; exact hown) hfm
      rw [hml] at ev
      injection ev with ev1 _ ev2
      subst ev1
      subst ev2
      have HM := mkHid (show (numL xs).length = xs.length from hml)
      clear hu hml
      go_wp2
      go_ret
      exact ⟨some ⟨g, 0, none⟩, cp, by rw [HM.out]; rfl, hrow, hbl⟩

/-- what a name and arguments make -/
def madeL (nm : ByteArray) (l : List (List Cel)) : List Cel := ⟨3, nm, l.length⟩ :: l.flatten
def makeL (nm : ByteArray) (l : List (List Cel)) : List Cel := if l.all rightB && rightB (madeL nm l) then madeL nm l else []
theorem right_len {xs : List Cel} (h : rightB xs = true) : xs.length ≤ 200 := by
  obtain ⟨_, _, _, _, _, h200⟩ := right_sk h
  exact h200
theorem make_bad {nm : ByteArray} {l : List (List Cel)} {k : Nat} (hk : k < l.length) (h : rightB l[k] = false) : makeL nm l = [] := by
  unfold makeL
  rw [if_neg]
  intro h2
  simp only [Bool.and_eq_true, List.all_eq_true] at h2
  have := h2.1 _ (List.getElem_mem hk)
  rw [h] at this; cases this
theorem make_head {nm : ByteArray} {l : List (List Cel)} (h : cellOk ⟨3, nm, l.length⟩ = false) : makeL nm l = [] := by
  unfold makeL
  rw [if_neg]
  intro h2
  simp only [Bool.and_eq_true] at h2
  obtain ⟨c, r, e, hc, _⟩ := right_sk h2.2
  unfold madeL at e
  rw [← (List.cons.inj e).1, h] at hc; cases hc
theorem all_take {l : List (List Cel)} {k : Nat} (hk : k < l.length) (h : (l.take k).all rightB = true) (h2 : rightB l[k] = true) : (l.take (k + 1)).all rightB = true := by
  rw [List.take_succ_eq_append_getElem hk, List.all_append, h]; simp [h2]
theorem flatten_take {l : List (List Cel)} {k : Nat} (hk : k < l.length) : (l.take (k + 1)).flatten = (l.take k).flatten ++ l[k] := by
  rw [List.take_succ_eq_append_getElem hk, List.flatten_append]; simp
theorem made_length {l : List (List Cel)} (h : l.all rightB = true) : l.flatten.length ≤ 200 * l.length := by
  induction l with
  | nil => simp
  | cons p l ih =>
    simp only [List.all_cons, Bool.and_eq_true] at h
    obtain ⟨_, _, _, _, _, h200⟩ := right_sk h.1
    have := ih h.2
    simp only [List.flatten_cons, List.length_append, List.length_cons]; omega

/-- what holds when k arguments stand behind the name -/
structure MakeInv (w : World) (nm : ByteArray) (l : List (List Cel)) (k : Nat) (v : Value) (wr : World) : Prop where
  all : (l.take k).all rightB = true
  own : wr.ownsRow w.heap.size 62 3 v (1 + (l.take k).flatten.length) (flat (⟨3, nm, l.length⟩ :: (l.take k).flatten))
  bel : Below w.heap.size w wr
  fit : Hid (∀ c ∈ (l.take k).flatten, c.fit)

set_option maxHeartbeats 1600000 in
theorem refmake_any (a : Option Addr) (cap : Nat) (nm : ByteArray) (w : World) (l : List (List Cel)) (hr : Row w a cap l) (hl : l.length ≤ 1000) (hn : nm.size ≤ 9223372036854775807) :
    Calls Tryd.prog 30 #[.string nm, .slice a l.length cap] w fun e w' => ∃ a' cap', e = .returned (.slice a' (makeL nm l).length cap') ∧ Row w' a' cap' (makeL nm l) ∧ Below w.heap.size w w' := by
  have hm := hr.max
  have hle := hr.le
  have hcf : (⟨3, nm, l.length⟩ : Cel).fit := ⟨by simp, by simp, by show (-9223372036854775808 : Int) ≤ l.length; omega, by show (l.length : Int) ≤ 9223372036854775807; omega, hn⟩
  have hb0 := (Below.refl w.heap.size w).new (.cells #[.int .i64 3, .string nm, .int .i64 l.length] 62)
  have hown0 : (w.alloc (.cells #[.int .i64 3, .string nm, .int .i64 l.length] 62)).ownsRow w.heap.size 62 3 (.slice (some ⟨w.heap.size, 0, none⟩) 1 1) 1 (flat (⟨3, nm, l.length⟩ :: (l.take 0).flatten)) := by
    have := World.ownsRow_lit (base := w.heap.size) (e := 62) (size := 3) w #[.int .i64 3, .string nm, .int .i64 l.length] 1 (Nat.le_refl _) (by unfold maxLen; omega) rfl
    simpa [flat] using this
  go_enter Tryd.func30, Tryd.ntmps30
  go_wp2_with fail
  have hown1 := hown0
  have hb01 := hb0
  go_loopw [5, 6] (fun v i wr => ∃ k : Nat, k ≤ l.length ∧ i = .int .i64 k ∧ MakeInv w nm l k v wr) (fun v i wr => l.length - (intOf i).toNat)
  case atStart => exact ⟨0, Nat.zero_le _, rfl, ⟨rfl, hown1, hb01, by simp [Hid]⟩⟩
  case round =>
    clear hown0 hown1
    obtain ⟨k, hk, rfl, ⟨HA, hown, hbl, HF⟩⟩ := hrel
    have hlen := made_length HA
    rw [List.length_take, Nat.min_eq_left hk] at hlen
    by_cases hlt : k < l.length
    · obtain ⟨b, off, rfl, hb, hat⟩ := hr.cases.resolve_left (fun e => by simp [e] at hlt)
      obtain ⟨a1, cap1, c0, hr1⟩ := list_at hat hbl hlt
      cases hR : rightB l[k] with
      | false =>
        have HE := mkHid (make_bad (nm := nm) hlt hR)
        have HR := mkHid hR
        clear hR HA
        go_wp2_with (go_at_call 32; refine (refright_any a1 cap1 _ l[k] hr1).mono ?_; rintro e w2 ⟨rfl, hb2⟩; rw [HR.out])
        go_ret
        rw [HE.out]
        exact ⟨none, 0, rfl, Row.empty _ _ _ (by omega) (fun _ => rfl), hbl.then hb2⟩
      | true =>
        have h200 := right_len hR
        have HA' := mkHid (all_take hlt HA hR)
        have HT := mkHid (flatten_take hlt)
        have HF' : Hid (∀ c ∈ (l.take (k + 1)).flatten, c.fit) := by
          rw [Hid, HT.out]
          intro c hc
          rcases List.mem_append.1 hc with h | h
          · exact HF.out c h
          · exact hr1.fit c h
        have HR := mkHid hR
        clear hR HA
        go_wp2_with (first
          | (go_at_call 32; refine (refright_any a1 cap1 _ l[k] hr1).mono ?_; rintro e w2 ⟨rfl, hb2⟩; rw [HR.out]; have hown2 := own_below hown hb2; have hbl2 := hbl.then hb2; have c0' := keep c0 hb2; clear c0)
          | (at_builtin; refine wpList_app rfl _ _ 22 rfl w.heap.size 62 3 32 _ Tryd.underlying22 Tryd.infoCell rfl (by decide) (by decide) _ _ _ rfl hown2 a1 l[k].length cap1 (flat l[k]) rfl ((hr1.below hb2).src) (by omega) hbl2.size ?_; intro v' w3 hown3 _ hb3))
        rw [← flat_append, List.cons_append] at hown3
        go_round
        case rel => exact ⟨k + 1, by omega, by go_num, ⟨HA'.out, by rw [HT.out, List.length_append, ← Nat.add_assoc]; exact hown3, hbl2.trans hb3, HF'⟩⟩
        case measure => simp [intOf]; omega
    · have hkl : l.take k = l := List.take_of_length_le (by omega)
      rw [hkl] at hown HA HF
      have hML : (madeL nm l).length = 1 + l.flatten.length := by simp [madeL]; omega
      have hfm : ∀ c ∈ madeL nm l, c.fit := fun c hc => by
        rcases List.mem_cons.1 hc with rfl | hc
        · exact hcf
        · exact HF.out c hc
      obtain ⟨a2, cap2, rfl, hrow⟩ := own_row (xs := madeL nm l) (by rw [hML]; exact hown) hfm
      have HA' := mkHid HA
      clear hkl hML HA
      cases hR : rightB (madeL nm l) with
      | true =>
        have HZ : Hid (makeL nm l = madeL nm l) := if_pos (by rw [HA'.out, hR]; rfl)
        have HR := mkHid hR
        clear hR
        go_wp2_with (go_at_call 32; refine (refright_any a2 cap2 _ (madeL nm l) hrow).mono ?_; rintro e w2 ⟨rfl, hb2⟩; rw [HR.out])
        go_ret
        rw [HZ.out]
        exact ⟨a2, cap2, rfl, hrow.below hb2, hbl.then hb2⟩
      | false =>
        have HZ : Hid (makeL nm l = []) := if_neg (by rw [hR]; simp)
        have HR := mkHid hR
        clear hR
        go_wp2_with (go_at_call 32; refine (refright_any a2 cap2 _ (madeL nm l) hrow).mono ?_; rintro e w2 ⟨rfl, hb2⟩; rw [HR.out])
        go_ret
        rw [HZ.out]
        exact ⟨none, 0, rfl, Row.empty _ _ _ (by omega) (fun _ => rfl), hbl.then hb2⟩
end Go.Proofs.YtabjghmfjoefpaaDoor
set_option linter.unusedVariables false
namespace Go.Proofs.YtabjghmfjoefpaaDoor
open Go.RowKit
open Md

/-! ### terms made of a name and parts; lists -/
theorem flats_flat (ts : List Tm) : (ts.map Tm.flat).flatten = flats ts := by
  induction ts with
  | nil => rfl
  | cons t ts ih => rw [List.map_cons, List.flatten_cons, ih, flats]
theorem make_tree (nm : ByteArray) (ts : List Tm) (hok : oks ts) (hnm : cellOk ⟨3, nm, ts.length⟩ = true) (h200 : (Tm.mk ⟨3, nm, ts.length⟩ ts).flat.length ≤ 200) :
    (Tm.mk ⟨3, nm, ts.length⟩ ts).ok ∧ makeL nm (ts.map Tm.flat) = (Tm.mk ⟨3, nm, ts.length⟩ ts).flat := by
  have ht : (Tm.mk ⟨3, nm, ts.length⟩ ts).ok := ⟨hnm, by simp [ar], hok⟩
  have hm : madeL nm (ts.map Tm.flat) = (Tm.mk ⟨3, nm, ts.length⟩ ts).flat := by
    unfold madeL
    rw [flats_flat, List.length_map]; rfl
  refine ⟨ht, ?_⟩
  unfold makeL
  rw [if_pos, hm]
  rw [hm, right_flat ht h200, Bool.and_true, List.all_eq_true]
  intro x hx
  obtain ⟨u, hu, rfl⟩ := List.mem_map.1 hx
  refine right_flat (oks_mem hok u hu) ?_
  have := flat_arg_lt (t := Tm.mk ⟨3, nm, ts.length⟩ ts) hu
  omega
theorem umk (nm : ByteArray) (ts : List Tm) (n : Nat) (hn : ts.length = n) (hn6 : n ≤ 6) (hok : oks ts) (hnm : nameOk nm = true) (hsz : nm.size ≤ 12) (h200 : 1 + (flats ts).length ≤ 200) (a : Option Addr) (cap : Nat) (w : World) (hr : Row w a cap (ts.map Tm.flat)) :
    Calls Tryd.prog 30 #[.string nm, .slice a n cap] w fun e w' => ∃ a' cap', e = .returned (.slice a' (Tm.mk ⟨3, nm, n⟩ ts).flat.length cap') ∧ Row w' a' cap' (Tm.mk ⟨3, nm, n⟩ ts).flat ∧ (Tm.mk ⟨3, nm, n⟩ ts).ok ∧ Below w.heap.size w w' := by
  subst hn
  have hc : cellOk ⟨3, nm, ts.length⟩ = true := by
    unfold cellOk
    simp [hnm]
    omega
  obtain ⟨h1, h2⟩ := make_tree nm ts hok hc (by rw [flat_args]; exact h200)
  have := refmake_any a cap nm w (ts.map Tm.flat) hr (by simp; omega) (by omega)
  rw [List.length_map, h2] at this
  exact this.mono fun e w' ⟨a', cap', e1, e2, e3⟩ => ⟨a', cap', e1, e2, h1, e3⟩
theorem rowTwo (w : World) {a b : Option Addr} {c d : Nat} {t u : List Cel} (h1 : Row w a c t) (h2 : Row w b d u) :
    Row (w.alloc (.cells #[.slice a t.length c, .slice b u.length d] 22)) (some ⟨w.heap.size, 0, none⟩) 2 ([t, u] : List (List Cel)) := by
  have hb := (Below.refl w.heap.size w).new (.cells #[.slice a t.length c, .slice b u.length d] 22)
  exact row_new w _ (22, 0) (xs := ([t, u] : List (List Cel))) (.cons (cs := [.slice a t.length c]) (show RepC.C (α := List Cel) _ [.slice a t.length c] t from ⟨a, c, rfl, h1.below hb⟩) (.cons (cs := [.slice b u.length d]) (show RepC.C (α := List Cel) _ [.slice b u.length d] u from ⟨b, d, rfl, h2.below hb⟩) .nil)) (by simp)
theorem rowOne (w : World) {a : Option Addr} {c : Nat} {t : List Cel} (h1 : Row w a c t) :
    Row (w.alloc (.cells #[.slice a t.length c] 22)) (some ⟨w.heap.size, 0, none⟩) 1 ([t] : List (List Cel)) := by
  have hb := (Below.refl w.heap.size w).new (.cells #[.slice a t.length c] 22)
  exact row_new w _ (22, 0) (xs := ([t] : List (List Cel))) (.cons (cs := [.slice a t.length c]) (show RepC.C (α := List Cel) _ [.slice a t.length c] t from ⟨a, c, rfl, h1.below hb⟩) .nil) (by simp)
namespace Tx
/-- a list of terms, with what stands behind them -/
def chain : List Tm → Tm → Tm
  | [], e => e
  | t :: ts, e => .mk ⟨3, ⟨#[46]⟩, 2⟩ [t, chain ts e]
theorem chain_beh (ts : List Tm) (e : Tm) : behT (chain ts e) = tlL ts ++ behT e := by
  induction ts with
  | nil => rfl
  | cons t ts ih =>
    rw [chain, beh_list (by decide +kernel), item_two, ih, tlL]
    simp
theorem chain_text (t : Tm) (ts : List Tm) (e : Tm) : textT (chain (t :: ts) e) = 91 :: (sepL [44] (textsT (t :: ts)) ++ behT e) := by
  rw [chain, text_list rfl (by decide +kernel) (by decide +kernel) (by decide +kernel) (by decide +kernel), item_two, chain_beh, sep_tl]
  simp
theorem beh_nil0 : behT Hp.t5 = [93] := by decide +kernel
theorem beh_end {e : Tm} (h1 : isC e.hd [46] 2 = false) (h2 : isC e.hd [91, 93] 0 = false) : behT e = 124 :: (textT e ++ [93]) := by
  obtain ⟨c, ts⟩ := e
  exact beh_bar h1 h2
theorem chain_len (ts : List Tm) (e : Tm) (m : Nat) (h : ∀ t ∈ ts, t.flat.length ≤ m) : (chain ts e).flat.length ≤ ts.length * (m + 1) + e.flat.length := by
  induction ts with
  | nil => simp [chain]
  | cons t ts ih =>
    have h1 := h t List.mem_cons_self
    have h2 := ih fun u hu => h u (List.mem_cons_of_mem _ hu)
    rw [chain, flat_args]
    simp only [Tm.args, flats, List.length_append, List.length_nil, List.length_cons]
    rw [Nat.add_mul]; omega
theorem sep_len {ts : List Tm} {m : Nat} (h : ∀ t ∈ ts, t.ok ∧ t.flat.length ≤ m) : (sepL [44] (textsT ts)).length ≤ ts.length * (40 * m + 1) := by
  have h1 := sepL_len [44] (textsT ts)
  have h2 := flatten_le (L := textsT ts) (m := 40 * m) (fun x hx => by
    obtain ⟨t, ht, rfl⟩ := List.mem_map.1 hx
    have := (text_len t (h t ht).1).1
    have := (h t ht).2
    have : 40 * t.flat.length ≤ 40 * m := Nat.mul_le_mul_left _ this
    omega)
  have h3 : (textsT ts).length = ts.length := by simp [textsT]
  rw [List.length_flatten] at h2
  rw [h3] at h1 h2
  simp only [List.length_singleton, Nat.mul_one] at h1
  rw [Nat.mul_add, Nat.mul_one]; omega
theorem sep_cons (x : Tm) {ts : List Tm} (h : ts ≠ []) : sepL [44] (textsT (x :: ts)) = textT x ++ (44 :: sepL [44] (textsT ts)) := by
  cases ts with
  | nil => exact absurd rfl h
  | cons t ts => rw [sep_tl, sep_tl]; simp [tlL]
/-- an end that is the empty list is that -/
theorem nil_tree {t : Tm} (h : t.ok) (hn : isC t.hd [91, 93] 0 = true) : t = Hp.t5 := by
  obtain ⟨c, ts⟩ := t
  have hn' : isC c [91, 93] 0 = true := hn
  have e : c = Hp.nilC := isC_eq hn' (by decide +kernel)
  subst e
  rw [args_none h (by decide +kernel)]; rfl
end Tx
end Go.Proofs.YtabjghmfjoefpaaDoor
