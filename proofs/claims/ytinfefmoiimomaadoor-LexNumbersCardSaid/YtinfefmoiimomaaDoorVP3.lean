import Derived.Test.YtinfefmoiimomaaDoorVP2
namespace Go.Proofs.YtinfefmoiimomaaDoor

def isOk0 : Res → Bool
  | .ok [] => true
  | _ => false
def isOk1 : Res → Bool
  | .ok [_] => true
  | _ => false
def isErr (e : Int) : Res → Bool
  | .error (p, f) => p == 0 && f == e
  | _ => false
theorem isOk0_eq {r : Res} (h : isOk0 r = true) : r = .ok [] := by
  match r, h with
  | .ok [], _ => rfl
theorem isOk1_eq {r : Res} (h : isOk1 r = true) : ∃ t, r = .ok [t] := by
  match r, h with
  | .ok [t], _ => exact ⟨t, rfl⟩
theorem isErr_eq {e : Int} {r : Res} (h : isErr e r = true) : r = .error (0, e) := by
  match r, h with
  | .error (p, f), h => simp [isErr] at h; rw [h.1, h.2]
def lex1 (c : UInt8) : Res := lexW false [c] 0
def odd1 (c : UInt8) : Bool := !(blankB c || c == 37) || isOk0 (lex1 c)
def odd2 (c : UInt8) : Bool := !(letterB c || signB c || punctB c) || (isOk1 (lex1 c) && !(blankB c) && !(c == 37))
def odd4 (c : UInt8) : Bool := blankB c || c == 37 || letterB c || signB c || punctB c || c == 39 || isErr 40 (lex1 c)
theorem odd1_all : (List.range 256).all (fun i => odd1 (UInt8.ofNat i)) = true := by decide +kernel
theorem odd2_all : (List.range 256).all (fun i => odd2 (UInt8.ofNat i)) = true := by decide +kernel
theorem odd4_all : (List.range 256).all (fun i => odd4 (UInt8.ofNat i)) = true := by decide +kernel
theorem of_all {p : UInt8 → Bool} (h : (List.range 256).all (fun i => p (UInt8.ofNat i)) = true) (c : UInt8) : p c = true := by
  have := List.all_eq_true.1 h c.toNat (by simp [List.mem_range]; exact c.toNat_lt)
  simpa using this
theorem odd_blank {c : UInt8} (h : (blankB c || c == 37) = true) : lexW false [c] 0 = .ok [] := by
  have := of_all odd1_all c
  rw [odd1, h] at this
  exact isOk0_eq (r := lex1 c) (by simpa using this)
theorem odd_one {c : UInt8} (h : (letterB c || signB c || punctB c) = true) : (∃ t, lexW false [c] 0 = .ok [t]) ∧ blankB c = false ∧ (c == 37) = false := by
  have := of_all odd2_all c
  rw [odd2, h] at this
  simp only [Bool.not_true, Bool.false_or, Bool.and_eq_true, Bool.not_eq_true'] at this
  exact ⟨isOk1_eq this.1.1, this.1.2, this.2⟩
theorem odd_bad {c : UInt8} (h1 : blankB c = false) (h2 : (c == 37) = false) (h3 : letterB c = false) (h4 : signB c = false) (h5 : punctB c = false) (h6 : (c == 39) = false) : lexW false [c] 0 = .error (0, 40) := by
  have := of_all odd4_all c
  rw [odd4, h1, h2, h3, h4, h5, h6] at this
  exact isErr_eq (r := lex1 c) (by simpa using this)
theorem odd_quote (c : UInt8) : lexW false [39, c] 0 = .error (0, 41) := by
  have h : tokL [39, c] = .err 41 := by
    have h1 : smallB 39 = false := by decide
    have h2 : greatB 39 = false := by decide
    have h3 : digitB 39 = false := by decide
    have hq : quoB [c] = false := by
      by_cases hc : c = 39
      · subst hc; decide
      · have : notQ c = true := by simp [notQ, hc]
        simp [quoB, span, this]
    simp [tokL, h1, h2, h3, quoS, hq]
  exact lexW_err (by decide) (by decide) h
end Go.Proofs.YtinfefmoiimomaaDoor
