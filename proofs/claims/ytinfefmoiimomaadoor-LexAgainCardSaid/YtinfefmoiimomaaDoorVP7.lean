import Derived.Test.YtinfefmoiimomaaDoorVP6
import Derived.Test.YtinfefmoiimomaaDoorVP5
namespace Go.Proofs.YtinfefmoiimomaaDoor

def writeK (ts : List Tok) : List UInt8 := ts.flatMap fun u => writeTok u.k u.s.data.toList
def agains : List Tok → Nat → List Tok
  | [], _ => []
  | u :: r, q => again u q :: agains r (q + (writeTok u.k u.s.data.toList).length)
theorem mkB_back (s : ByteArray) : mkB s.data.toList = s := by
  apply ByteArray.ext; simp [mkB]
theorem lex_writeK : ∀ (ts : List Tok), (∀ u ∈ ts, TokW u.k u.s.data.toList u.n) → ∀ q, lexW false (writeK ts) q = .ok (agains ts q)
  | [], _, q => lexW_nil _ _
  | u :: r, h, q => by
    have h1 := lex_tok (h u (by simp)) (writeK r) q
    rw [lex_writeK r (fun v hv => h v (by simp [hv]))] at h1
    rw [show writeK (u :: r) = writeTok u.k u.s.data.toList ++ writeK r from rfl, h1, mkB_back]
    rfl
theorem agains_length : ∀ (ts : List Tok) (q : Nat), (agains ts q).length = ts.length
  | [], _ => rfl
  | u :: r, q => by simp only [agains, List.length_cons, agains_length r]
theorem agains_get : ∀ (ts : List Tok) (q i : Nat) (h : i < ts.length), ∃ p, (agains ts q)[i]'(by rw [agains_length]; exact h) = again ts[i] p
  | u :: r, q, 0, _ => ⟨q, rfl⟩
  | u :: r, q, i + 1, h => agains_get r _ i (by simpa using h)
theorem writeTok_le (k : Int) (t : List UInt8) : (writeTok k t).length ≤ t.length + 3 := by
  unfold writeTok; split <;> simp
theorem TokIs.len_ge {l : List UInt8} {k : Int} {t : List UInt8} {n : Int} {len : Nat} (h : TokIs l k t n len) : 1 ≤ t.length ∧ t.length ≤ len := by
  cases l with
  | nil => cases h
  | cons c r =>
    obtain ⟨h1, h2⟩ := h.text
    refine ⟨h1, ?_⟩
    rcases h2 with ⟨_, h3, _, _⟩ | ⟨_, h3, _, _⟩ <;> omega
theorem Ord.write {L : List UInt8} {e : Nat} {ts : List Tok} (h : Ord L e ts) : (writeK ts).length + 4 * e ≤ 4 * L.length := by
  induction h with
  | nil h1 h2 => simp [writeK]; omega
  | @cons e p k t n len ts h1 h2 h3 h4 h5 ih =>
    have h6 := h4.len_ge
    have h7 := h4.len_pos
    have h8 := writeTok_le k t
    have e1 : (writeK (⟨k, mkB t, n, p⟩ :: ts)).length = (writeTok k t).length + (writeK ts).length := by
      rw [show writeK (⟨k, mkB t, n, p⟩ :: ts) = writeTok k (mkB t).data.toList ++ writeK ts from rfl, List.length_append]
      simp [mkB]
    rw [e1]
    omega
theorem Ord.w {L : List UInt8} {e : Nat} {ts : List Tok} (h : Ord L e ts) : ∀ u ∈ ts, TokW u.k u.s.data.toList u.n := by
  induction h with
  | nil h1 h2 => intro u hu; simp at hu
  | cons h1 h2 h3 h4 h5 ih =>
    intro u hu
    rcases List.mem_cons.1 hu with rfl | hu
    · have := h4.w
      simpa [mkB] using this
    · exact ih u hu
theorem Ord.here {L : List UInt8} {e : Nat} {ts : List Tok} (h : Ord L e ts) : ∀ u ∈ ts, ∃ (p : Nat) (k : Int) (t : List UInt8) (n : Int) (len : Nat), u = ⟨k, mkB t, n, p⟩ ∧ p < L.length ∧ TokIs (L.drop p) k t n len := by
  induction h with
  | nil h1 h2 => intro u hu; simp at hu
  | cons h1 h2 h3 h4 h5 ih =>
    intro u hu
    rcases List.mem_cons.1 hu with rfl | hu
    · exact ⟨_, _, _, _, _, rfl, h2, h4⟩
    · exact ih u hu
def WB (ts : List Tok) (k : Nat) : ByteArray := mkB (writeK (ts.take k))
theorem WB_next (ts : List Tok) (k : Nat) (h : k < ts.length) : (WB ts (k + 1)).data.toList = (WB ts k).data.toList ++ writeTok ts[k].k ts[k].s.data.toList := by
  have e : writeK (ts.take (k + 1)) = writeK (ts.take k) ++ writeTok ts[k].k ts[k].s.data.toList := by
    unfold writeK
    rw [List.take_succ_eq_append_getElem h, List.flatMap_append, List.flatMap_cons, List.flatMap_nil, List.append_nil]
  unfold WB
  rw [e]
  simp only [mkB, List.toList_toArray]
theorem WB_quo (ts : List Tok) (k : Nat) (h : k < ts.length) (h1 : ts[k].k = 1) (h2 : plainB ts[k].s.data.toList = false) : WB ts k ++ ⟨#[39]⟩ ++ ts[k].s ++ ⟨#[39, 32]⟩ = WB ts (k + 1) := by
  apply ByteArray.ext
  rw [← Array.toList_inj, WB_next ts k h, writeTok, if_pos ⟨h1, h2⟩]
  simp
theorem WB_bare (ts : List Tok) (k : Nat) (h : k < ts.length) (h1 : ¬ (ts[k].k = 1 ∧ plainB ts[k].s.data.toList = false)) : WB ts k ++ ts[k].s ++ ⟨#[32]⟩ = WB ts (k + 1) := by
  apply ByteArray.ext
  rw [← Array.toList_inj, WB_next ts k h, writeTok, if_neg h1]
  simp
theorem WB_all (ts : List Tok) : (WB ts ts.length).data.toList = writeK ts := by
  unfold WB; rw [List.take_length]; simp [mkB]
theorem WB_zero (ts : List Tok) : WB ts 0 = ⟨#[]⟩ := rfl
theorem WB_le (ts : List Tok) (k : Nat) : (WB ts k).size ≤ (writeK ts).length := by
  have h : writeK ts = writeK (ts.take k) ++ writeK (ts.drop k) := by
    unfold writeK; rw [← List.flatMap_append, List.take_append_drop]
  have h2 : (WB ts k).size = (writeK (ts.take k)).length := by
    show (mkB _).data.size = _; simp [mkB]
  rw [h, List.length_append, h2]; omega
end Go.Proofs.YtinfefmoiimomaaDoor
