import Derived.Test.YtinfefmoiimomaaDoorV10
namespace Go.Proofs.YtinfefmoiimomaaDoor
open Go.RowKit

theorem indexByte_iff (l : List UInt8) (c : UInt8) : 0 ≤ Lib.indexByte l c ↔ c ∈ l := by
  induction l with
  | nil => simp [Lib.indexByte]
  | cons b l ih =>
    have hge := Lib.indexByte_ge l c
    by_cases h : b = c
    · subst h; simp [Lib.indexByte]
    · have h1 : ¬ (b == c) = true := by simpa using h
      have h2 : ¬ c = b := fun e => h e.symm
      rw [List.mem_cons, or_iff_right h2, ← ih]
      by_cases h3 : Lib.indexByte l c = -1
      · simp only [Lib.indexByte, h1, h3]; simp
      · have h4 : ¬ (Lib.indexByte l c == -1) = true := by simpa using h3
        simp only [Lib.indexByte, h1, h4]; simp; omega
theorem indexByte_has (l : List UInt8) (c : UInt8) : decide (0 ≤ Lib.indexByte l c) = l.contains c := by
  rw [Bool.eq_iff_iff, decide_eq_true_eq, indexByte_iff, List.contains_iff_mem]
theorem sign_any (c : UInt8) (w : World) : Calls Tryd.prog 44 #[.int .u8 (c.toNat : Int)] w fun e w' => e = .returned (.bool (signB c)) ∧ w = w' := by
  obtain ⟨z, hz⟩ : ∃ z, z = Lib.indexByte signL c := ⟨_, rfl⟩
  have HZ : Hid (Lib.indexByte (⟨#[43, 45, 42, 47, 92, 94, 60, 62, 61, 126, 58, 63, 64, 35, 38, 36, 46]⟩ : ByteArray).data.toList c = z) := hz.symm
  have HB : Hid (decide (0 ≤ z) = signB c) := by rw [Hid, hz]; exact indexByte_has signL c
  clear hz
  go_enter Tryd.func44, Tryd.ntmps44
  go_wp2_with fail
  refine (indexByte_any _ c _).mono ?_; rintro e w1 ⟨rfl, rfl⟩; rw [HZ.out]
  go_wp2
  go_ret
  exact ⟨ret_bool HB.out, rfl⟩
theorem of1_any (s : ByteArray) (B : Nat) (c : UInt8) (w : World) (hc : w.cell? ⟨B, 0, none⟩ = some (.string s)) : Calls Tryd.prog 56 #[.int .u8 (c.toNat : Int), .pointer (some ⟨B, 0, none⟩)] w fun e w' => e = .returned (.bool (s.data.toList.contains c)) ∧ w = w' := by
  obtain ⟨z, hz⟩ : ∃ z, z = Lib.indexByte s.data.toList c := ⟨_, rfl⟩
  have HZ := mkHid hz.symm
  have HB : Hid (decide (0 ≤ z) = s.data.toList.contains c) := by rw [Hid, hz]; exact indexByte_has _ c
  clear hz
  go_enter Tryd.func56, Tryd.ntmps56
  go_wp2_with fail
  refine (indexByte_any _ c _).mono ?_; rintro e w1 ⟨rfl, rfl⟩; rw [HZ.out]
  go_wp2
  go_ret
  exact ⟨ret_bool HB.out, rfl⟩
theorem of_any (s : ByteArray) (w : World) : Calls Tryd.prog 33 #[.string s] w fun e w' => ∃ B, e = .returned (.func (.func 56) #[] #[.pointer (some ⟨B, 0, none⟩)]) ∧ TellC w' 56 #[.pointer (some ⟨B, 0, none⟩)] (fun c => s.data.toList.contains c) ∧ Below w.heap.size w w' := by
  have hb := (Below.refl w.heap.size w).new (.cells #[.string s] 9)
  have hc : (w.alloc (.cells #[.string s] 9)).cell? ⟨w.heap.size, 0, none⟩ = some (.string s) := World.cell?_alloc_at _ _ _ 0 rfl
  have HF : Hid (TellC (w.alloc (.cells #[.string s] 9)) 56 #[.pointer (some ⟨w.heap.size, 0, none⟩)] (fun c => s.data.toList.contains c)) :=
    ⟨fun _ _ => by kernel_rfl, fun W hW c => of1_any s w.heap.size c W (keep hc hW)⟩
  clear hc
  go_enter Tryd.func33, Tryd.ntmps33
  go_wp2
  go_ret
  exact ⟨_, rfl, HF.out, hb⟩

/-- the table's entries -/
abbrev Ent := (List UInt8 → Bool) × (List UInt8 → Step)
def tbl : List Ent := [(headP blankB, fun l => .pass (span blankB l)), (headP (fun c => [37].contains c), fun l => .pass (span notNl l)), (headP smallB, runS 1 letterB 12), (headP greatB, runS 2 letterB 20000),
  (headP digitB, numS), (headP (fun c => [39].contains c), fun l => quoS (l.drop 1)), (headP punctB, fun l => .tok 5 (l.take 1) 0 1), (fullP, fun l => .tok 6 (l.take 1) 0 1), (headP signB, runS 4 signB 12)]
def firstOf (l : List UInt8) : List Ent → Step
  | [] => .err 40
  | e :: r => if e.1 l then e.2 l else firstOf l r
theorem firstOf_step (c : UInt8) (r : List UInt8) : firstOf (c :: r) tbl = stepL (c :: r) := by
  have h37 : [37].contains c = (c == 37) := by rw [List.contains_cons, List.contains_nil, Bool.or_false]
  have h39 : [39].contains c = (c == 39) := by rw [List.contains_cons, List.contains_nil, Bool.or_false]
  simp only [tbl, firstOf, stepL, tokL, headP, fullP, h37, h39, List.drop_succ_cons, List.drop_zero, List.take_succ_cons, List.take_zero]
  rfl
/-- an entry as it lies in memory -/
structure EntAt (w : World) (g i : Nat) (e : Ent) : Prop where
  ex : ∃ F caps F' caps', w.cell? ⟨g, i * 2, none⟩ = some (.func (.func F) #[] caps) ∧ w.cell? ⟨g, i * 2 + 1, none⟩ = some (.func (.func F') #[] caps') ∧ FitC w F caps e.1 ∧ TakeC w F' caps' e.1 e.2
theorem EntAt.later {w w' : World} {g i : Nat} {e : Ent} (h : EntAt w g i e) (hb : Below w.heap.size w w') : EntAt w' g i e :=
  let ⟨F, caps, F', caps', h1, h2, h3, h4⟩ := h.ex
  ⟨F, caps, F', caps', keep h1 hb, keep h2 hb, h3.later hb, h4.later hb⟩
def TblAt (w : World) (g : Nat) : Prop := ∀ i e, tbl[i]? = some e → EntAt w g i e
theorem TblAt.later {w w' : World} {g : Nat} (h : TblAt w g) (hb : Below w.heap.size w w') : TblAt w' g := fun i e hi => (h i e hi).later hb
end Go.Proofs.YtinfefmoiimomaaDoor
