import Derived.Test.YtkbgdpgmnigcbaaC16
namespace Go.Proofs.Ytkbgdpgmnigcbaa
open Go.RowKit

def oneL : List Cel := [⟨3, ⟨#[102]⟩, 3⟩, ⟨1, ⟨#[]⟩, 3⟩, ⟨3, ⟨#[103]⟩, 1⟩, ⟨1, ⟨#[]⟩, 1⟩, ⟨1, ⟨#[]⟩, 3⟩]
def oneT : Tm := .mk ⟨3, ⟨#[102]⟩, 3⟩ [.mk ⟨1, ⟨#[]⟩, 3⟩ [], .mk ⟨3, ⟨#[103]⟩, 1⟩ [.mk ⟨1, ⟨#[]⟩, 1⟩ []], .mk ⟨1, ⟨#[]⟩, 3⟩ []]
theorem one_right : rightB oneL = true := by decide +kernel
theorem one_flat : oneT.flat = oneL := by simp [oneT, Tm.flat, flats, oneL]
theorem one_ok : oneT.ok := by simp [oneT, Tm.ok, oks]; decide +kernel
theorem one_depth : oneT.depth = 3 := by simp [oneT, Tm.depth, depths]
theorem one_parts : partsL oneL = [[⟨1, ⟨#[]⟩, 3⟩], [⟨3, ⟨#[103]⟩, 1⟩, ⟨1, ⟨#[]⟩, 1⟩], [⟨1, ⟨#[]⟩, 3⟩]] := by decide +kernel
theorem one_vars : varsL oneL = [3, 1] := by decide +kernel
theorem one_num : numL oneL = [⟨3, ⟨#[102]⟩, 3⟩, ⟨1, ⟨#[]⟩, 0⟩, ⟨3, ⟨#[103]⟩, 1⟩, ⟨1, ⟨#[]⟩, 1⟩, ⟨1, ⟨#[]⟩, 0⟩] := by decide +kernel
theorem one_shift : shiftL oneL 2 = [⟨3, ⟨#[102]⟩, 3⟩, ⟨1, ⟨#[]⟩, 5⟩, ⟨3, ⟨#[103]⟩, 1⟩, ⟨1, ⟨#[]⟩, 3⟩, ⟨1, ⟨#[]⟩, 5⟩] := by decide +kernel
theorem one_shift997 : shiftL oneL 997 = [] := by decide +kernel
theorem one_cut : rightB [⟨3, ⟨#[102]⟩, 3⟩, ⟨1, ⟨#[]⟩, 3⟩, ⟨3, ⟨#[103]⟩, 1⟩, ⟨1, ⟨#[]⟩, 1⟩] = false := by decide +kernel
theorem nil_right : rightB [] = false := by decide +kernel
theorem one_ground : groundB oneL = false := by decide +kernel
theorem make_a : makeL ⟨#[97]⟩ [] = [⟨3, ⟨#[97]⟩, 0⟩] := by decide +kernel
theorem make_none : makeL ⟨#[]⟩ [] = [] := by decide +kernel
theorem comp_a7 : compP [⟨3, ⟨#[97]⟩, 0⟩] [⟨2, ⟨#[]⟩, 7⟩] = 1 := by decide +kernel
theorem comp_77 : compP [⟨2, ⟨#[]⟩, 7⟩] [⟨2, ⟨#[]⟩, 7⟩] = 0 := by decide +kernel
theorem ground_a : groundB [⟨3, ⟨#[97]⟩, 0⟩] = true := by decide +kernel

set_option maxHeartbeats 400000 in
theorem one_any (w : World) :
    Calls Try.prog 37 #[] w fun e w' => ∃ a cap, e = .returned (.slice a 5 cap) ∧ Row w' a cap oneL ∧ Below w.heap.size w w' := by
  have hown := World.ownsRow_lit (base := w.heap.size) (e := 40) (size := 3) w #[.int .i64 3, .string ⟨#[102]⟩, .int .i64 3, .int .i64 1, .string ⟨#[]⟩, .int .i64 3, .int .i64 3, .string ⟨#[103]⟩, .int .i64 1, .int .i64 1, .string ⟨#[]⟩, .int .i64 1, .int .i64 1, .string ⟨#[]⟩, .int .i64 3] 5 (Nat.le_refl _) (by unfold maxLen; omega) rfl
  have hfit : ∀ c ∈ oneL, c.fit := by
    intro c hc
    simp only [oneL, List.mem_cons, List.not_mem_nil, or_false] at hc
    rcases hc with rfl | rfl | rfl | rfl | rfl <;> exact ⟨by decide, by decide, by decide, by decide, by decide⟩
  obtain ⟨a, cap, e, hr⟩ := own_row (xs := oneL) hown hfit
  injection e with e1 e2 e3
  subst e1
  subst e3
  have hb := (Below.refl w.heap.size w).new (.cells #[.int .i64 3, .string ⟨#[102]⟩, .int .i64 3, .int .i64 1, .string ⟨#[]⟩, .int .i64 3, .int .i64 3, .string ⟨#[103]⟩, .int .i64 1, .int .i64 1, .string ⟨#[]⟩, .int .i64 1, .int .i64 1, .string ⟨#[]⟩, .int .i64 3] 40)
  clear e2 hown hfit
  go_enter Try.func37, Try.ntmps37
  go_wp2
  go_ret
  exact ⟨_, _, rfl, hr, hb⟩
end Go.Proofs.Ytkbgdpgmnigcbaa
