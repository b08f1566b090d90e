import Derived.Test.YtkbgdpgmnigcbaaLib
namespace Go.Proofs.Ytkbgdpgmnigcbaa
open Go.RowKit

def okByte (c : UInt8) : Bool := decide (32 ≤ (c.toNat : Int)) && decide ((c.toNat : Int) ≤ 126) && !((c.toNat : Int) == 39)
def nameOk (s : ByteArray) : Bool := s.data.toList.all okByte && decide (1 ≤ (s.size : Int)) && decide ((s.size : Int) ≤ 12)
def cellOk (c : Cel) : Bool :=
  (decide (c.k = 1) && decide (c.s.toList = []) && decide (0 ≤ c.n) && decide (c.n ≤ 999)) ||
  (decide (c.k = 2) && decide (c.s.toList = []) && decide (-2147483647 ≤ c.n) && decide (c.n ≤ 2147483647)) ||
  (decide (c.k = 3) && nameOk c.s && decide (0 ≤ c.n) && decide (c.n ≤ 6))
def ar (c : Cel) : Nat := if c.k = 3 then c.n.toNat else 0
def sk : Nat → List Cel → Option (List Cel)
  | 0, l => some l
  | _ + 1, [] => none
  | m + 1, c :: l => if cellOk c then sk (m + ar c) l else none
def endI (xs : List Cel) (i : Nat) : Int := match sk 1 (xs.drop i) with
  | none => -1
  | some r => xs.length - r.length

theorem take_snoc (s : ByteArray) (k : Nat) (h : k < s.size) : s.data.toList.take (k + 1) = s.data.toList.take k ++ [s[k]] := by
  rw [List.take_succ_eq_append_getElem (by simpa using h)]; rfl
theorem okByte_true {c : UInt8} (h : okByte c = true) : 32 ≤ (c.toNat : Int) ∧ (c.toNat : Int) ≤ 126 ∧ ((c.toNat : Int) == 39) = false := by
  simp [okByte] at h ⊢; omega
theorem okByte_false {c : UInt8} (h : okByte c = false) : (c.toNat : Int) < 32 ∨ 32 ≤ (c.toNat : Int) ∧ 126 < (c.toNat : Int) ∨ 32 ≤ (c.toNat : Int) ∧ (c.toNat : Int) ≤ 126 ∧ ((c.toNat : Int) == 39) = true := by
  simp [okByte] at h ⊢; omega
theorem all_bad (s : ByteArray) (k : Nat) (h : k < s.size) (hb : okByte s[k] = false) : nameOk s = false := by
  have : s.data.toList.all okByte = false := by
    rw [List.all_eq_false]
    exact ⟨s[k], by simp [ByteArray.getElem_eq_getElem_data], by simp [hb]⟩
  simp [nameOk, this]
theorem all_snoc (s : ByteArray) (k : Nat) (h : k < s.size) (h1 : (s.data.toList.take k).all okByte = true) (hb : okByte s[k] = true) : (s.data.toList.take (k + 1)).all okByte = true := by
  rw [take_snoc s k h, List.all_append, h1]; simp [hb]
theorem nameOk_of (s : ByteArray) (h : s.data.toList.all okByte = true) : nameOk s = (decide (1 ≤ (s.size : Int)) && decide ((s.size : Int) ≤ 12)) := by
  simp [nameOk, h]

theorem sk_step (m : Nat) (xs : List Cel) (i : Nat) (h : i < xs.length) : sk (m + 1) (xs.drop i) = if cellOk xs[i] then sk (m + ar xs[i]) (xs.drop (i + 1)) else none := by
  rw [List.drop_eq_getElem_cons h]; rfl
theorem sk_end (m : Nat) (xs : List Cel) (i : Nat) (h : xs.length ≤ i) : sk (m + 1) (xs.drop i) = none := by
  rw [List.drop_eq_nil_of_le h]; rfl
theorem ar_le (c : Cel) (h : cellOk c = true) : ar c ≤ 6 := by
  unfold ar; simp [cellOk] at h; split <;> omega
theorem cellOk_fun (c : Cel) (h : cellOk c = true) (h3 : (c.k == 3) = true) : 0 ≤ c.n ∧ c.n ≤ 6 := by
  simp [cellOk] at h h3; omega
theorem endI_zero {xs : List Cel} {i j : Nat} (h : sk 1 (xs.drop i) = sk 0 (xs.drop j)) (hj : j ≤ xs.length) : endI xs i = j := by
  unfold endI; rw [h]; simp [sk]; omega
theorem endI_none {xs : List Cel} {i : Nat} (h : sk 1 (xs.drop i) = none) : endI xs i = -1 := by
  unfold endI; rw [h]
section
variable {xs : List Cel} {i0 k m : Nat}
theorem end_l1 (h : sk 1 (xs.drop i0) = sk (m + 1) (xs.drop k)) (hk : k < xs.length) (ho : cellOk xs[k] = false) : endI xs i0 = -1 :=
  endI_none (by rw [h, sk_step m xs k hk, ho]; rfl)
theorem end_l2 (hm : m ≤ 6 * k) (hk' : k ≤ 1048576) (h : sk 1 (xs.drop i0) = sk (m + 1) (xs.drop k)) (hk : k < xs.length) (ho : cellOk xs[k] = true) (h3 : (xs[k].k == 3) = true)
    (hz : (wrap64 ((m : Int) + xs[k].n) == 0) = true) : endI xs i0 = k + 1 := by
  have hn := cellOk_fun _ ho h3
  have : wrap64 ((m : Int) + xs[k].n) = (m : Int) + xs[k].n := IntWalk.wrap64_in _ (by constructor <;> omega)
  rw [this] at hz; simp at hz h3
  exact endI_zero (by rw [h, sk_step m xs k hk, ho]; simp only [if_true]; congr 1; unfold ar; rw [if_pos h3]; omega) hk
theorem end_l3 (hm : m ≤ 6 * k) (hk' : k ≤ 1048576) (h : sk 1 (xs.drop i0) = sk (m + 1) (xs.drop k)) (hk : k < xs.length) (ho : cellOk xs[k] = true) (h3 : (xs[k].k == 3) = true)
    (hz : (wrap64 ((m : Int) + xs[k].n) == 0) = false) : ∃ m' : Nat, wrap64 ((m : Int) + xs[k].n) = m' + 1 ∧ m' ≤ 6 * (k + 1) ∧ sk 1 (xs.drop i0) = sk (m' + 1) (xs.drop (k + 1)) := by
  have hn := cellOk_fun _ ho h3
  have : wrap64 ((m : Int) + xs[k].n) = (m : Int) + xs[k].n := IntWalk.wrap64_in _ (by constructor <;> omega)
  rw [this] at hz ⊢; simp at hz h3
  refine ⟨m + xs[k].n.toNat - 1, by omega, by omega, ?_⟩
  rw [h, sk_step m xs k hk, ho]; simp only [if_true]; congr 1; unfold ar; rw [if_pos h3]; omega
theorem end_l4 (h : sk 1 (xs.drop i0) = sk (m + 1) (xs.drop k)) (hk : k < xs.length) (ho : cellOk xs[k] = true) (h3 : (xs[k].k == 3) = false)
    (hz : ((m : Int) == 0) = true) : endI xs i0 = k + 1 := by
  simp at hz h3
  exact endI_zero (by rw [h, sk_step m xs k hk, ho]; simp only [if_true]; congr 1; unfold ar; rw [if_neg h3]; omega) hk
theorem end_l5 (h : sk 1 (xs.drop i0) = sk (m + 1) (xs.drop k)) (hk : k < xs.length) (ho : cellOk xs[k] = true) (h3 : (xs[k].k == 3) = false)
    (hz : ((m : Int) == 0) = false) : sk 1 (xs.drop i0) = sk (m - 1 + 1) (xs.drop (k + 1)) := by
  simp at hz h3
  rw [h, sk_step m xs k hk, ho]; simp only [if_true]; congr 1; unfold ar; rw [if_neg h3]; omega
end
def rightB (xs : List Cel) : Bool := decide ((xs.length : Int) ≤ 200) && decide (endI xs 0 = xs.length)
def arI (c : Cel) : Int := if c.k = 3 then c.n else 0
theorem rightB_pos {xs : List Cel} (h : xs.length < 1) : rightB xs = false := by
  obtain rfl : xs = [] := List.eq_nil_of_length_eq_zero (by omega)
  decide
theorem rightB_le {xs : List Cel} (h : (xs.length : Int) ≤ 200) : (endI xs 0 == xs.length) = rightB xs := by
  rw [rightB, decide_eq_true h, Bool.true_and]; rfl
theorem rightB_gt {xs : List Cel} (h : 200 < (xs.length : Int)) : false = rightB xs := by
  simp [rightB]; intros; omega

def afterI (xs : List Cel) (i j : Nat) : Int := match sk j (xs.drop i) with
  | none => -1
  | some r => xs.length - r.length
def passI (xs : List Cel) (i : Int) : Int := if 0 ≤ i then endI xs i.toNat else -1
theorem sk_add (a b : Nat) (l : List Cel) : sk (a + b) l = (sk a l).bind (sk b) := by
  induction l generalizing a with
  | nil => cases a with
    | zero => simp [sk]
    | succ a => rw [show a + 1 + b = a + b + 1 by omega]; rfl
  | cons c l ih => cases a with
    | zero => simp [sk]
    | succ a =>
      rw [show a + 1 + b = a + b + 1 by omega]
      simp only [sk]
      split
      · rw [show a + b + ar c = a + ar c + b by omega, ih]
      · rfl
theorem sk_suffix (m : Nat) (l r : List Cel) (h : sk m l = some r) : r.length ≤ l.length ∧ r = l.drop (l.length - r.length) := by
  induction l generalizing m with
  | nil => cases m with
    | zero => simp [sk] at h; subst h; simp
    | succ m => simp [sk] at h
  | cons c l ih => cases m with
    | zero => simp [sk] at h; subst h; simp
    | succ m =>
      simp only [sk] at h
      split at h
      · obtain ⟨h1, h2⟩ := ih _ h
        refine ⟨by simp; omega, ?_⟩
        rw [show (c :: l).length - r.length = (l.length - r.length) + 1 by simp; omega]
        exact h2
      · cases h
theorem sk_at {xs : List Cel} {i j : Nat} {r : List Cel} (hi : i ≤ xs.length) (h : sk j (xs.drop i) = some r) : r.length ≤ xs.length - i ∧ xs.drop (xs.length - r.length) = r := by
  obtain ⟨h1, h2⟩ := sk_suffix _ _ _ h
  rw [List.length_drop] at h1 h2
  refine ⟨h1, ?_⟩
  rw [List.drop_drop] at h2
  rw [show xs.length - r.length = i + (xs.length - i - r.length) by omega]
  exact h2.symm
theorem afterI_zero {xs : List Cel} {i : Nat} (h : i ≤ xs.length) : afterI xs i 0 = i := by
  simp [afterI, sk]; omega
theorem afterI_succ {xs : List Cel} {i j : Nat} (hi : i ≤ xs.length) : passI xs (afterI xs i j) = afterI xs i (j + 1) := by
  unfold afterI
  rw [sk_add]
  cases h : sk j (xs.drop i) with
  | none => rfl
  | some r =>
    obtain ⟨h1, h2⟩ := sk_at hi h
    simp only [Option.bind_some]
    unfold passI
    rw [if_pos (by omega), show ((xs.length : Int) - r.length).toNat = xs.length - r.length by omega]
    unfold endI
    rw [h2]
theorem endI_ok {xs : List Cel} {i : Nat} (hi : i < xs.length) (h : cellOk xs[i] = true) : endI xs i = afterI xs (i + 1) (ar xs[i]) := by
  unfold endI afterI
  have := sk_step 0 xs i hi
  rw [Nat.zero_add] at this
  rw [this, h]; simp
theorem endI_bad {xs : List Cel} {i : Nat} (hi : i < xs.length) (h : cellOk xs[i] = false) : endI xs i = -1 := by
  unfold endI
  have := sk_step 0 xs i hi
  rw [Nat.zero_add] at this
  rw [this, h]; simp
theorem endI_out {xs : List Cel} {i : Nat} (hi : xs.length ≤ i) : endI xs i = -1 := endI_none (sk_end 0 xs i hi)
theorem afterI_range {xs : List Cel} {i j : Nat} (hi : i ≤ xs.length) : afterI xs i j = -1 ∨ (i : Int) ≤ afterI xs i j ∧ afterI xs i j ≤ xs.length := by
  unfold afterI
  cases h : sk j (xs.drop i) with
  | none => exact .inl rfl
  | some r => obtain ⟨h1, _⟩ := sk_at hi h; right; simp only; omega
theorem arI_ar {c : Cel} (h : cellOk c = true) : arI c = ar c := by
  unfold arI ar
  by_cases h3 : c.k = 3
  · have := cellOk_fun c h (by simp [h3]); rw [if_pos h3, if_pos h3]; omega
  · rw [if_neg h3, if_neg h3]; rfl

def varsGo (acc : List Int) : List Cel → List Int
  | [] => acc
  | c :: l => varsGo (if c.k = 1 ∧ c.n ∉ acc then acc ++ [c.n] else acc) l
def varsL (xs : List Cel) : List Int := varsGo [] xs
theorem varsGo_step (acc : List Int) (xs : List Cel) (k : Nat) (h : k < xs.length) : varsGo acc (xs.drop k) = varsGo (if xs[k].k = 1 ∧ xs[k].n ∉ acc then acc ++ [xs[k].n] else acc) (xs.drop (k + 1)) := by
  rw [List.drop_eq_getElem_cons h]; rfl
theorem varsGo_fit (xs : List Cel) (hf : ∀ c ∈ xs, c.fit) : ∀ acc : List Int, (∀ n ∈ acc, -9223372036854775808 ≤ n ∧ n ≤ 9223372036854775807) → ∀ n ∈ varsGo acc xs, -9223372036854775808 ≤ n ∧ n ≤ 9223372036854775807 := by
  induction xs with
  | nil => intro acc h; exact h
  | cons c l ih =>
    intro acc h
    refine ih (fun d hd => hf d (List.mem_cons_of_mem _ hd)) _ ?_
    have hc := hf c List.mem_cons_self
    split
    · intro n hn
      rcases List.mem_append.1 hn with h' | h'
      · exact h n h'
      · simp at h'; subst h'; exact ⟨hc.n1, hc.n2⟩
    · exact h
theorem varsGo_length (xs : List Cel) : ∀ acc : List Int, (varsGo acc xs).length ≤ acc.length + xs.length := by
  induction xs with
  | nil => intro acc; simp [varsGo]
  | cons c l ih =>
    intro acc
    have h := ih (if c.k = 1 ∧ c.n ∉ acc then acc ++ [c.n] else acc)
    have h2 : (if c.k = 1 ∧ c.n ∉ acc then acc ++ [c.n] else acc).length ≤ acc.length + 1 := by split <;> simp
    simp only [varsGo, List.length_cons]
    omega
def groundB (xs : List Cel) : Bool := xs.all fun c => !decide (c.k = 1)
theorem varsGo_ne (xs : List Cel) : ∀ acc : List Int, acc ≠ [] → varsGo acc xs ≠ [] := by
  induction xs with
  | nil => intro acc h; exact h
  | cons c l ih =>
    intro acc h
    refine ih _ ?_
    split
    · simp
    · exact h
theorem ground_vars (xs : List Cel) : groundB xs = decide ((varsL xs).length = 0) := by
  unfold varsL
  induction xs with
  | nil => rfl
  | cons c l ih =>
    by_cases h : c.k = 1
    · have h1 : groundB (c :: l) = false := by simp [groundB, h]
      have h2 : varsGo [] (c :: l) = varsGo [c.n] l := by simp [varsGo, h]
      rw [h1, h2]
      have := varsGo_ne l [c.n] (by simp)
      simp [this]
    · have h1 : groundB (c :: l) = groundB l := by simp [groundB, h]
      have h2 : varsGo [] (c :: l) = varsGo [] l := by simp [varsGo, h]
      rw [h1, h2, ih]
end Go.Proofs.Ytkbgdpgmnigcbaa
