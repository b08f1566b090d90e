import Derived.Test.YtinfefmoiimomaaDoorV1
namespace Go.Proofs.YtinfefmoiimomaaDoor
open Go.RowKit

theorem take_snocB (s : ByteArray) (k : Nat) (h : k < s.size) : s.data.toList.take (k + 1) = s.data.toList.take k ++ [s[k]] := by
  rw [List.take_succ_eq_append_getElem (by simpa using h)]; rfl
theorem size_list (s : ByteArray) : s.data.toList.length = s.size := by simp
theorem drop_consB (s : ByteArray) (k : Nat) (h : k < s.size) : s.data.toList.drop k = s[k] :: s.data.toList.drop (k + 1) := by
  rw [List.drop_eq_getElem_cons (by simpa using h)]; rfl
theorem span_stop {p : UInt8 → Bool} {l r : List UInt8} {c : UInt8} {k : Nat} (h : (l.take k).all p = true) (hd : l.drop k = c :: r) (hc : p c = false) : span p l = k := by
  have hk : k < l.length := by
    rcases Nat.lt_or_ge k l.length with h | h
    · exact h
    · rw [List.drop_of_length_le h] at hd; cases hd
  have e : l = l.take k ++ c :: r := by rw [← hd, List.take_append_drop]
  unfold span
  rw [e, List.takeWhile_append_of_pos (by simpa using h)]
  simp [hc]
  omega
theorem span_all {p : UInt8 → Bool} {l : List UInt8} (h : l.all p = true) : span p l = l.length := by
  unfold span
  have := List.takeWhile_append_of_pos (p := p) (l₁ := l) (l₂ := []) (by simpa using h)
  simp at this
  rw [this]
theorem all_snocB {p : UInt8 → Bool} (s : ByteArray) (k : Nat) (h : k < s.size) (h1 : (s.data.toList.take k).all p = true) (hb : p s[k] = true) : (s.data.toList.take (k + 1)).all p = true := by
  rw [take_snocB s k h, List.all_append, h1]; simp [hb]

/-- a function of the program, which a value may name -/
def Enters (F : Nat) : Prop := ∀ (args : Array Value) (w : World), (callFunc F args).run Tryd.prog w = .ok (.enter F args) w
set_option maxHeartbeats 800000 in
set_option maxRecDepth 20000 in
theorem length_any (s : ByteArray) (F : Nat) (caps : Array Value) (p : UInt8 → Bool) (w : World) (hs : s.size ≤ 1000000) (hE : Enters F) (hp : Tells F caps p w) :
    Calls Tryd.prog 55 #[.string s, .func (.func F) #[] caps] w fun e w' => e = .returned (.int .i64 (span p s.data.toList : Nat)) ∧ w = w' := by
  have HP := mkHid hp
  unfold Enters at hE
  clear hp
  go_enter Tryd.func55, Tryd.ntmps55
  go_wp2
  go_loop [5] (fun i => ∃ k : Nat, k ≤ s.size ∧ i = .int .i64 k ∧ Hid ((s.data.toList.take k).all p = true)) (fun i => s.size - (intOf i).toNat)
  case atStart => exact ⟨0, Nat.zero_le _, rfl, mkHid (by simp)⟩
  case round =>
    obtain ⟨k, hk, rfl, HA⟩ := hrel
    by_cases hlt : k < s.size
    · cases hc : p s[k] with
      | true =>
        have HN := mkHid (all_snocB s k hlt HA.out hc)
        have HC := mkHid hc
        clear hc HA
        go_wp2_with fail
        refine (HP.out _).mono ?_; rintro e w' ⟨rfl, rfl⟩; rw [HC.out]
        go_wp2
        go_round
        case rel => exact ⟨k + 1, by omega, by go_num, HN⟩
        case measure => simp [intOf]; omega
      | false =>
        have HN := mkHid (span_stop HA.out (drop_consB s k hlt) hc)
        have HC := mkHid hc
        clear hc HA
        go_wp2_with fail
        refine (HP.out _).mono ?_; rintro e w' ⟨rfl, rfl⟩; rw [HC.out]
        go_wp2
        go_ret
        exact ⟨ret_int (by rw [HN.out]), rfl⟩
    · have HN : Hid (span p s.data.toList = s.size) := by
        have h := HA.out
        rw [List.take_of_length_le (by simp; omega)] at h
        exact (span_all h).trans (by simp)
      clear HA
      go_wp2
      go_ret
      exact ⟨ret_int (by rw [HN.out]; omega), rfl⟩
end Go.Proofs.YtinfefmoiimomaaDoor
