import Derived.Test.YtinfefmoiimomaaDoorV2
import Derived.Test.YtinfefmoiimomaaDoorVLay
import Derived.Lib.IndexMore
import Derived.Lib.Bytealg
import Derived.Lib.AtoiAll
namespace Go.Proofs.YtinfefmoiimomaaDoor
open Go.RowKit

/-- the library's variables, as the program's text lays them -/
structure LibVars (w : World) : Prop where
  maxLen : ∃ m, w.cell? ⟨3, 0, none⟩ = some (.int .i64 m)
  range : ∃ te pe, w.cell? ⟨5, 0, none⟩ = some (.iface te pe)
theorem LibVars.below {w w' : World} (h : LibVars w) (hb : Below w.heap.size w w') : LibVars w' :=
  ⟨let ⟨m, hm⟩ := h.maxLen; ⟨m, keep hm hb⟩, let ⟨t, p, hm⟩ := h.range; ⟨t, p, keep hm hb⟩⟩

theorem indexByte_any (s : ByteArray) (c : UInt8) (w : World) :
    Calls Tryd.prog 57 #[.string s, .int .u8 (c.toNat : Int)] w fun e w' => e = .returned (.int .i64 (Lib.indexByte s.data.toList c)) ∧ w = w' :=
  (Any.strings_IndexByte Tryd.lays137 s (c.toNat : Int) w).mono fun e w' ⟨he, hw⟩ => ⟨by rw [he, Int.toNat_natCast]; simp, hw.symm⟩
theorem cloneS_any (s : ByteArray) (w : World) (h : s.size ≤ 1000000) :
    Calls Tryd.prog 70 #[.string s] w fun e w' => e = .returned (.string s) ∧ Below w.heap.size w w' := by
  go_enter Tryd.func70, Tryd.ntmps70
  go_wp2_with fail
  refine Calls.mono (Any.stringslite_Clone Tryd.laysM316 s w (by omega)) ?_; rintro e w1 ⟨rfl, hb⟩
  go_wp2
  go_ret
  exact ⟨rfl, hb⟩
theorem cut_any (s : ByteArray) (w : World) (h : s.size ≤ 1000000) (hw : LibVars w) :
    Calls Tryd.prog 61 #[.string s, .string ⟨#[39]⟩] w fun e w' => e = .returned (.tuple #[.string ⟨(Lib.cut s.data.toList [39]).1.toArray⟩, .string ⟨(Lib.cut s.data.toList [39]).2.1.toArray⟩, .bool (Lib.cut s.data.toList [39]).2.2]) ∧ Below w.heap.size w w' :=
  let ⟨m, hm⟩ := hw.maxLen
  (Any.strings_Cut Tryd.lays145 s ⟨#[39]⟩ m w (by omega) hm).mono fun e w' ⟨he, n, hw⟩ => ⟨he, by rw [hw]; exact ⟨rfl, rfl, rfl, Nat.le_refl _, fun _ _ => rfl⟩⟩
theorem atoi_ok (s : ByteArray) (w : World) (h : s.size ≤ 1000000) (v : Int) (hv : Lib.atoiAll s.data.toList = .ok v) :
    Calls Tryd.prog 60 #[.string s] w fun e w' => e = .returned (.tuple #[.int .i64 v, .nilIface]) ∧ Below w.heap.size w w' :=
  (Any.strconv_Atoi_ok Tryd.laysC172 s (by omega) v hv w).mono fun e w' ⟨he, hw⟩ => ⟨he, by
    rcases hw with rfl | ⟨t, rfl⟩
    · exact Below.refl _ _
    · exact Lib.bytesWorld_below _ _ _⟩
theorem atoi_range (s : ByteArray) (w : World) (h : s.size ≤ 1000000) (hw : LibVars w) (hv : Lib.atoiAll s.data.toList = .range) :
    Calls Tryd.prog 60 #[.string s] w fun e w' => ∃ t p, e = .returned (.tuple #[.int .i64 (Lib.atoiSat s.data.toList), .iface t p]) ∧ Below w.heap.size w w' :=
  let ⟨te, pe, hm⟩ := hw.range
  (Any.strconv_Atoi_range Tryd.laysC172 s (by omega) hv (.iface te pe) w hm (.inr ⟨te, pe, rfl⟩)).mono fun e w' ⟨N, he, _, _, hb⟩ => ⟨_, _, he, hb⟩
end Go.Proofs.YtinfefmoiimomaaDoor
