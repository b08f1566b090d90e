import Derived.Test.YtinfefmoiimomaaDoorVL
import Derived.Test.YtinfefmoiimomaaDoorOpen
import Derived.Test.YtinfefmoiimomaaDoorTie
import Derived.Test.YtinfefmoiimomaaDoorCards
import Derived.Deep.DeepHandedRow
import Derived.Shelf.Vars
import Derived.Stop.LaidErr
import Derived.LaidMore
import Derived.LaidLaws
import Derived.SizedLaws
import Derived.SevenTiedAt
namespace Go.Proofs.YtinfefmoiimomaaDoor
open Go.RowKit Go.ChangeShapes Go.WideShapes Go.ChangeAt

theorem Tryd.gER : Tryd.prog.globalNamed "strconv.ErrRange" = some 5 := by kernel_rfl
theorem Tryd.gERt : (Tryd.prog.globals[5]?).map (·.type) = some 65 := by kernel_rfl
theorem Tryd.cellsES : Tryd.prog.cellsOf 99 = 1 := by kernel_rfl
theorem Tryd.star : "*" ++ "errors.errorString" = "*errors.errorString" := by decide
theorem Tryd.rowES (u : TypeId) (h : Tryd.prog.typeName? 3 u = some "*errors.errorString") : u = 97 :=
  typeName_ptr_named (nm := "errors.errorString") (by rw [Tryd.star]; kernel_rfl) (by kernel_rfl) (by decide) u (by rw [Tryd.star]; exact h)
abbrev laidL : List (String × DataW Unit) := Rows.lexTellsRow.laid
/-- the heap that the door's own run leaves meets the condition -/
theorem door_met (os : Os) (args : Array Value) : laidMetH Tryd.prog laidL ((World.doorLaid Tryd.prog 4000 os).forCall (fun _ _ => 0) ⟨#[], args, []⟩).memory :=
  laidMetH_of_parts3 (fuel := 8) (laidMet_of_run' 8 (by kernel_rfl) (by kernel_rfl)) (by kernel_rfl) (by kernel_rfl)
theorem libVars_of {W : World} (hL : laidMetH Tryd.prog laidL W) (hsh : W.ShapedOpen Tryd.prog) : LibVars W := by
  rw [MakeChecks.laidMetH_plain _ _ _ (by kernel_rfl)] at hL
  obtain ⟨a1, s1, hv1, -, -, -⟩ := laid_sentinel hL.tail.tail.tail Tryd.gER Tryd.gERt Tryd.underlying65 Tryd.rowES Tryd.underlying97 Tryd.underlying99 rfl rfl Tryd.underlying9 Tryd.cellsES Tryd.cells9
  refine ⟨?_, ⟨_, _, by have h0 := World.var?_cell Tryd.gER hv1 0; simpa using h0⟩⟩
  exact cell_of_shapedOpen_int (t := 3) (zero := #[.int .i64 0]) hsh (of_decide_eq_true (by kernel_rfl)) (by kernel_rfl) rfl (by kernel_rfl) (by kernel_rfl) Tryd.underlying3
end Go.Proofs.YtinfefmoiimomaaDoor
