import Derived.Test.YtinfefmoiimomaaDoorV3
namespace Go.Proofs.YtinfefmoiimomaaDoor
open Go.RowKit

/-- a function that tells bytes, now and later -/
def TellsL (F : Nat) (caps : Array Value) (p : UInt8 → Bool) (w : World) : Prop := ∀ W, Below w.heap.size w W → Tells F caps p W
theorem TellsL.later {F : Nat} {caps : Array Value} {p : UInt8 → Bool} {w w' : World} (h : TellsL F caps p w) (hb : Below w.heap.size w w') : TellsL F caps p w' := fun W hW => h W (hb.then hW)
/-- what a box holds -/
structure IsFn (w : World) (B F : Nat) (caps : Array Value) (p : UInt8 → Bool) : Prop where
  cell : w.cell? ⟨B, 0, none⟩ = some (.func (.func F) #[] caps)
  ent : Enters F
  tells : TellsL F caps p w
theorem IsFn.later {w w' : World} {B F : Nat} {caps : Array Value} {p : UInt8 → Bool} (h : IsFn w B F caps p) (hb : Below w.heap.size w w') : IsFn w' B F caps p :=
  ⟨keep h.cell hb, h.ent, h.tells.later hb⟩

theorem size_pos_list {s : ByteArray} (h : 1 ≤ s.size) : ∃ c r, s.data.toList = c :: r ∧ s[0]'h = c := by
  have hd := drop_consB s 0 h
  rw [List.drop_zero] at hd
  exact ⟨_, _, hd, rfl⟩
def headP (p : UInt8 → Bool) : List UInt8 → Bool
  | [] => false
  | c :: _ => p c
set_option maxRecDepth 20000 in
theorem first1_any (s : ByteArray) (B F : Nat) (caps : Array Value) (p : UInt8 → Bool) (w : World) (h1 : 1 ≤ s.size) (hf : IsFn w B F caps p) :
    Calls Tryd.prog 53 #[.string s, .pointer (some ⟨B, 0, none⟩)] w fun e w' => e = .returned (.bool (headP p s.data.toList)) ∧ Below w.heap.size w w' := by
  obtain ⟨c, r, hl, hc0⟩ := size_pos_list h1
  have hc1 : ∀ x : Later w, x.w'.cell? ⟨B, 0, none⟩ = some (.func (.func F) #[] caps) := fun x => keep hf.cell x.ok
  have hcall : ∀ x : Later w, Calls Tryd.prog F (#[.int .u8 ((s[0]'h1).toNat : Int)] ++ caps) x.w' fun e w'' => e = .returned (.bool (p c)) ∧ Below x.w'.heap.size x.w' w'' := fun x =>
    (hf.tells _ x.ok (s[0]'h1)).mono fun e w' ⟨he, hb⟩ => ⟨by rw [he, hc0], by rw [← hb]; exact Below.refl _ _⟩
  have hE := hf.ent
  unfold Enters at hE
  have HL : Hid (headP p s.data.toList = p c) := by rw [hl]; rfl
  have hz : 0 < s.size := h1
  clear hf hl hc0
  go_enter Tryd.func53, Tryd.ntmps53
  go_wp2
  refine wp_region_calm (by kernel_rfl) (by kernel_rfl) ?_
  repeat (go_big_quiet_step (exact Calls.calm_of (hcall _)))
  refine wpQuiet_nil ?_
  rintro _ ⟨x, rfl⟩
  go_wp2
  go_ret
  exact ⟨ret_bool HL.out.symm, x.ok⟩
end Go.Proofs.YtinfefmoiimomaaDoor
