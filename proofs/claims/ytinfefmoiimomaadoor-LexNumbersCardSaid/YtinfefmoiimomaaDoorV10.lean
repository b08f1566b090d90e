import Derived.Test.YtinfefmoiimomaaDoorV9
namespace Go.Proofs.YtinfefmoiimomaaDoor
open Go.RowKit

/-! ### the table -/
/-- a function value that tells bytes -/
structure TellC (w : World) (F : Nat) (caps : Array Value) (p : UInt8 → Bool) : Prop where
  ent : Enters F
  tells : TellsL F caps p w
theorem TellC.later {w w' : World} {F : Nat} {caps : Array Value} {p : UInt8 → Bool} (h : TellC w F caps p) (hb : Below w.heap.size w w') : TellC w' F caps p := ⟨h.ent, h.tells.later hb⟩
theorem TellC.plain {F : Nat} {p : UInt8 → Bool} (w : World) (he : Enters F) (h : ∀ (c : UInt8) (w : World), Calls Tryd.prog F #[.int .u8 (c.toNat : Int)] w fun e w' => e = .returned (.bool (p c)) ∧ w = w') : TellC w F #[] p :=
  ⟨he, fun W _ c => h c W⟩
/-- one that asks where something begins -/
structure FitC (w : World) (F : Nat) (caps : Array Value) (p : List UInt8 → Bool) : Prop where
  ent : Enters F
  tells : ∀ W, Below w.heap.size w W → ∀ s : ByteArray, 1 ≤ s.size → s.size ≤ 1000000 → Calls Tryd.prog F (#[.string s] ++ caps) W fun e w' => e = .returned (.bool (p s.data.toList)) ∧ Below W.heap.size W w'
theorem FitC.later {w w' : World} {F : Nat} {caps : Array Value} {p : List UInt8 → Bool} (h : FitC w F caps p) (hb : Below w.heap.size w w') : FitC w' F caps p := ⟨h.ent, fun W hW => h.tells W (hb.then hW)⟩
/-- one that takes it -/
structure TakeC (w : World) (F : Nat) (caps : Array Value) (p : List UInt8 → Bool) (q : List UInt8 → Step) : Prop where
  ent : Enters F
  tells : ∀ W, Below w.heap.size w W → LibVars W → ∀ s : ByteArray, 1 ≤ s.size → s.size ≤ 1000000 → p s.data.toList = true → Calls Tryd.prog F (#[.string s] ++ caps) W fun e w' => e = .returned (stepV (q s.data.toList)) ∧ Below W.heap.size W w'
theorem TakeC.later {w w' : World} {F : Nat} {caps : Array Value} {p : List UInt8 → Bool} {q : List UInt8 → Step} (h : TakeC w F caps p q) (hb : Below w.heap.size w w') : TakeC w' F caps p q := ⟨h.ent, fun W hW => h.tells W (hb.then hW)⟩

theorem first_any (F : Nat) (caps : Array Value) (p : UInt8 → Bool) (w : World) (h : TellC w F caps p) :
    Calls Tryd.prog 30 #[.func (.func F) #[] caps] w fun e w' => ∃ B, e = .returned (.func (.func 53) #[] #[.pointer (some ⟨B, 0, none⟩)]) ∧ FitC w' 53 #[.pointer (some ⟨B, 0, none⟩)] (headP p) ∧ Below w.heap.size w w' := by
  have hb := (Below.refl w.heap.size w).new (.cells #[.func (.func F) #[] caps] 34)
  have hc : (w.alloc (.cells #[.func (.func F) #[] caps] 34)).cell? ⟨w.heap.size, 0, none⟩ = some (.func (.func F) #[] caps) := World.cell?_alloc_at _ _ _ 0 rfl
  have HF : Hid (FitC (w.alloc (.cells #[.func (.func F) #[] caps] 34)) 53 #[.pointer (some ⟨w.heap.size, 0, none⟩)] (headP p)) :=
    ⟨fun _ _ => by kernel_rfl, fun W hW s h1 h2 => first1_any s w.heap.size F caps p W h1 (IsFn.later ⟨hc, h.ent, h.tells.later hb⟩ hW)⟩
  clear h
  go_enter Tryd.func30, Tryd.ntmps30
  go_wp2
  go_ret
  exact ⟨_, rfl, HF.out, hb⟩
theorem pass_any (F : Nat) (caps : Array Value) (p : UInt8 → Bool) (w : World) (h : TellC w F caps p) (g : List UInt8 → Bool) :
    Calls Tryd.prog 32 #[.func (.func F) #[] caps] w fun e w' => ∃ B, e = .returned (.func (.func 54) #[] #[.pointer (some ⟨B, 0, none⟩)]) ∧ TakeC w' 54 #[.pointer (some ⟨B, 0, none⟩)] g (fun l => .pass (span p l)) ∧ Below w.heap.size w w' := by
  have hb := (Below.refl w.heap.size w).new (.cells #[.func (.func F) #[] caps] 34)
  have hc : (w.alloc (.cells #[.func (.func F) #[] caps] 34)).cell? ⟨w.heap.size, 0, none⟩ = some (.func (.func F) #[] caps) := World.cell?_alloc_at _ _ _ 0 rfl
  have HF : Hid (TakeC (w.alloc (.cells #[.func (.func F) #[] caps] 34)) 54 #[.pointer (some ⟨w.heap.size, 0, none⟩)] g (fun l => .pass (span p l))) :=
    ⟨fun _ _ => by kernel_rfl, fun W hW _ s h1 h2 _ => pass1_any s w.heap.size F caps p W h2 (IsFn.later ⟨hc, h.ent, h.tells.later hb⟩ hW)⟩
  clear h
  go_enter Tryd.func32, Tryd.ntmps32
  go_wp2
  go_ret
  exact ⟨_, rfl, HF.out, hb⟩
theorem one_any (k : Int) (w : World) (g : List UInt8 → Bool) :
    Calls Tryd.prog 42 #[.int .i64 k] w fun e w' => ∃ B, e = .returned (.func (.func 63) #[] #[.pointer (some ⟨B, 0, none⟩)]) ∧ TakeC w' 63 #[.pointer (some ⟨B, 0, none⟩)] g (fun l => .tok k (l.take 1) 0 1) ∧ Below w.heap.size w w' := by
  have hb := (Below.refl w.heap.size w).new (.cells #[.int .i64 k] 3)
  have hc : (w.alloc (.cells #[.int .i64 k] 3)).cell? ⟨w.heap.size, 0, none⟩ = some (.int .i64 k) := World.cell?_alloc_at _ _ _ 0 rfl
  have HF : Hid (TakeC (w.alloc (.cells #[.int .i64 k] 3)) 63 #[.pointer (some ⟨w.heap.size, 0, none⟩)] g (fun l => .tok k (l.take 1) 0 1)) :=
    ⟨fun _ _ => by kernel_rfl, fun W hW _ s h1 h2 _ => one1_any s w.heap.size k W h1 h2 (keep hc hW)⟩
  go_enter Tryd.func42, Tryd.ntmps42
  go_wp2
  go_ret
  exact ⟨_, rfl, HF.out, hb⟩
set_option maxHeartbeats 800000 in
theorem runC_any (k : Int) (F : Nat) (p : UInt8 → Bool) (most : Nat) (w : World) (hm : most ≤ 1000000) (h : TellC w F #[] p) (g : List UInt8 → Bool) :
    Calls Tryd.prog 36 #[.int .i64 k, .func (.func F) #[] #[], .int .i64 most] w fun e w' => ∃ B M K, e = .returned (.func (.func 58) #[] #[.pointer (some ⟨B, 0, none⟩), .pointer (some ⟨M, 0, none⟩), .pointer (some ⟨K, 0, none⟩)]) ∧ TakeC w' 58 #[.pointer (some ⟨B, 0, none⟩), .pointer (some ⟨M, 0, none⟩), .pointer (some ⟨K, 0, none⟩)] g (runS k p most) ∧ Below w.heap.size w w' := by
  obtain ⟨w3, hw3⟩ : ∃ w3, w3 = (((w.alloc (.cells #[.int .i64 k] 3)).alloc (.cells #[.func (.func F) #[] #[]] 34)).alloc (.cells #[.int .i64 most] 3)) := ⟨_, rfl⟩
  have hb : Below w.heap.size w w3 := by rw [hw3]; exact (((Below.refl w.heap.size w).new _).alloc (by simp) _).alloc (by simp; omega) _
  have hK : w3.cell? ⟨w.heap.size, 0, none⟩ = some (.int .i64 k) := by rw [hw3]; simp [go_sem]
  have hB : w3.cell? ⟨w.heap.size + 1, 0, none⟩ = some (.func (.func F) #[] #[]) := by rw [hw3]; simp [go_sem]
  have hM : w3.cell? ⟨w.heap.size + 2, 0, none⟩ = some (.int .i64 most) := by rw [hw3]; simp [go_sem]
  have HF : Hid (TakeC w3 58 #[.pointer (some ⟨w.heap.size + 1, 0, none⟩), .pointer (some ⟨w.heap.size + 2, 0, none⟩), .pointer (some ⟨w.heap.size, 0, none⟩)] g (runS k p most)) :=
    ⟨fun _ _ => by kernel_rfl, fun W hW _ s h1 h2 _ => run1_any s _ _ _ F #[] p k most W h2 hm (IsFn.later ⟨hB, h.ent, h.tells.later hb⟩ hW) (keep hM hW) (keep hK hW)⟩
  have HW := mkHid hw3
  have HB := mkHid hb
  clear h hb hK hB hM hw3
  go_enter Tryd.func36, Tryd.ntmps36
  go_wp2
  go_ret
  rw [← HW.out]
  exact ⟨_, _, _, rfl, HF.out, HB.out⟩
end Go.Proofs.YtinfefmoiimomaaDoor
