/-
  No cell of these rows narrows 'for every input' (looked for: loops, veiled, ifaces, maps, wideKeys, modest, calm, conditions, laid).
  DERIVED. THE GIVEN ROWS OF THIS SEAT. 10 by the template 'for every input the law returns true; each argument reads behind the call as it read before'; 0 by the template 'total and deterministic' (their statements: YtmmnfkggfnokjaaTotals.lean).
  GIVEN WITH THE SEED: the statements are not yours to turn. If you find one false, say at which input.
  Laid BY PROGRAM, IN A SANDBOX (cutbox-rows.mjs): the forced cells as the released guide's own fill.sh prints them over the translation 1fb088b5932bc367… (all of the seat's roots in one cut). By AI agents, Wed Nov 11 2026. No macro, syntax, notation, axiom, sorry.
-/
import Derived.Test.YtmmnfkggfnokjaaChecked
import GoSem.Claim
import GoSem.ClaimJoined
import GoSem.ClaimMapViews
import Derived.JoinedTies
import Derived.KernelRfl
namespace Go.Proofs.Ytmmnfkggfnokjaa
/- THE CELL 'sum', in the pinned program and in every row, IS THE sha256 OF THE DUMP (.gsa) THAT YtmmnfkggfnokjaaProg.lean LOADS. Nothing in Lean hashes anything: it is a label: what it is worth is what the hold of that sum in a sandbox is worth. -/
noncomputable def Try.pinned : Pinned := { name := "ytmmnfkggfnokjaa", sum := "1fb088b5932bc367acc02de08219ed2e34147c5320d72670a0359f4775118f28", checked := Try.checked }
namespace Rows
def none {H : Type} : Left H := { results := [], args := [] }

/-- 'sorrellaw10.CodeTells': WHATEVER THE INPUT: true; the input reads as it did. -/
def codeTellsSpec : ChangeSpec := { name := "codeTells", fn := fun _ => fun
  | [d1, d2] => { results := [.lit (.bool true)], args := [d1, d2] }
  | _ => none }
def codeTellsRow : OpenClaim := { program := "ytmmnfkggfnokjaa", sum := "1fb088b5932bc367acc02de08219ed2e34147c5320d72670a0359f4775118f28", func := "sorrel/sorrellaw10.CodeTells", spec := "codeTells", unfollowed := true, recurses := true, plainKeys := false, apart := false }
def CodeTellsSaid : Prop := codeTellsRow.holds Try.pinned (OpenSpec.ofChange codeTellsSpec)

/-- ITS FALSE NEIGHBOUR: 'it returns false'. Refute it at one input. -/
def codeTellsWrong : ChangeSpec := { name := "codeTells", fn := fun _ => fun
  | [d1, d2] => { results := [.lit (.bool false)], args := [d1, d2] }
  | _ => none }
def CodeTellsWrongFalsely : Prop := codeTellsRow.holds Try.pinned (OpenSpec.ofChange codeTellsWrong)

/-- 'sorrellaw10.CodeSource': WHATEVER THE INPUT: true; the input reads as it did. -/
def codeSourceSpec : ChangeSpec := { name := "codeSource", fn := fun _ => fun
  | [d] => { results := [.lit (.bool true)], args := [d] }
  | _ => none }
def codeSourceRow : OpenClaim := { program := "ytmmnfkggfnokjaa", sum := "1fb088b5932bc367acc02de08219ed2e34147c5320d72670a0359f4775118f28", func := "sorrel/sorrellaw10.CodeSource", spec := "codeSource", unfollowed := true, recurses := true, plainKeys := false, apart := false }
def CodeSourceSaid : Prop := codeSourceRow.holds Try.pinned (OpenSpec.ofChange codeSourceSpec)

/-- ITS FALSE NEIGHBOUR: 'it returns false'. Refute it at one input. -/
def codeSourceWrong : ChangeSpec := { name := "codeSource", fn := fun _ => fun
  | [d] => { results := [.lit (.bool false)], args := [d] }
  | _ => none }
def CodeSourceWrongFalsely : Prop := codeSourceRow.holds Try.pinned (OpenSpec.ofChange codeSourceWrong)

/-- 'sorrellaw08.HeapTells': WHATEVER THE INPUT: true; the input reads as it did. -/
def heapTellsSpec : ChangeSpec := { name := "heapTells", fn := fun _ => fun
  | [d1, d2, d3] => { results := [.lit (.bool true)], args := [d1, d2, d3] }
  | _ => none }
def heapTellsRow : OpenClaim := { program := "ytmmnfkggfnokjaa", sum := "1fb088b5932bc367acc02de08219ed2e34147c5320d72670a0359f4775118f28", func := "sorrel/sorrellaw08.HeapTells", spec := "heapTells", unfollowed := true, recurses := true, plainKeys := false, apart := false }
def HeapTellsSaid : Prop := heapTellsRow.holds Try.pinned (OpenSpec.ofChange heapTellsSpec)

/-- ITS FALSE NEIGHBOUR: 'it returns false'. Refute it at one input. -/
def heapTellsWrong : ChangeSpec := { name := "heapTells", fn := fun _ => fun
  | [d1, d2, d3] => { results := [.lit (.bool false)], args := [d1, d2, d3] }
  | _ => none }
def HeapTellsWrongFalsely : Prop := heapTellsRow.holds Try.pinned (OpenSpec.ofChange heapTellsWrong)

/-- 'sorrellaw08.HeapAlike': WHATEVER THE INPUT: true; the input reads as it did. -/
def heapAlikeSpec : ChangeSpec := { name := "heapAlike", fn := fun _ => fun
  | [d1, d2] => { results := [.lit (.bool true)], args := [d1, d2] }
  | _ => none }
def heapAlikeRow : OpenClaim := { program := "ytmmnfkggfnokjaa", sum := "1fb088b5932bc367acc02de08219ed2e34147c5320d72670a0359f4775118f28", func := "sorrel/sorrellaw08.HeapAlike", spec := "heapAlike", unfollowed := true, recurses := true, plainKeys := false, apart := false }
def HeapAlikeSaid : Prop := heapAlikeRow.holds Try.pinned (OpenSpec.ofChange heapAlikeSpec)

/-- ITS FALSE NEIGHBOUR: 'it returns false'. Refute it at one input. -/
def heapAlikeWrong : ChangeSpec := { name := "heapAlike", fn := fun _ => fun
  | [d1, d2] => { results := [.lit (.bool false)], args := [d1, d2] }
  | _ => none }
def HeapAlikeWrongFalsely : Prop := heapAlikeRow.holds Try.pinned (OpenSpec.ofChange heapAlikeWrong)

/-- 'sorrellaw12.FactsSet': WHATEVER THE INPUT: true; the input reads as it did. -/
def factsSetSpec : ChangeSpec := { name := "factsSet", fn := fun _ => fun
  | [d1, d2, d3] => { results := [.lit (.bool true)], args := [d1, d2, d3] }
  | _ => none }
def factsSetRow : OpenClaim := { program := "ytmmnfkggfnokjaa", sum := "1fb088b5932bc367acc02de08219ed2e34147c5320d72670a0359f4775118f28", func := "sorrel/sorrellaw12.FactsSet", spec := "factsSet", inPlace := ["slices.overlaps[[]sorrel/api.Cell]"], unfollowed := true, recurses := true, plainKeys := false, apart := false }
def FactsSetSaid : Prop := factsSetRow.holds Try.pinned (OpenSpec.ofChange factsSetSpec)

/-- ITS FALSE NEIGHBOUR: 'it returns false'. Refute it at one input. -/
def factsSetWrong : ChangeSpec := { name := "factsSet", fn := fun _ => fun
  | [d1, d2, d3] => { results := [.lit (.bool false)], args := [d1, d2, d3] }
  | _ => none }
def FactsSetWrongFalsely : Prop := factsSetRow.holds Try.pinned (OpenSpec.ofChange factsSetWrong)

/-- 'sorrellaw12.FactsOrder': WHATEVER THE INPUT: true; the input reads as it did. -/
def factsOrderSpec : ChangeSpec := { name := "factsOrder", fn := fun _ => fun
  | [d1, d2] => { results := [.lit (.bool true)], args := [d1, d2] }
  | _ => none }
def factsOrderRow : OpenClaim := { program := "ytmmnfkggfnokjaa", sum := "1fb088b5932bc367acc02de08219ed2e34147c5320d72670a0359f4775118f28", func := "sorrel/sorrellaw12.FactsOrder", spec := "factsOrder", inPlace := ["slices.overlaps[[]sorrel/api.Cell]"], unfollowed := true, recurses := true, plainKeys := false, apart := false }
def FactsOrderSaid : Prop := factsOrderRow.holds Try.pinned (OpenSpec.ofChange factsOrderSpec)

/-- ITS FALSE NEIGHBOUR: 'it returns false'. Refute it at one input. -/
def factsOrderWrong : ChangeSpec := { name := "factsOrder", fn := fun _ => fun
  | [d1, d2] => { results := [.lit (.bool false)], args := [d1, d2] }
  | _ => none }
def FactsOrderWrongFalsely : Prop := factsOrderRow.holds Try.pinned (OpenSpec.ofChange factsOrderWrong)

/-- 'sorrellaw12.FactsAll': WHATEVER THE INPUT: true; the input reads as it did. -/
def factsAllSpec : ChangeSpec := { name := "factsAll", fn := fun _ => fun
  | [d1, d2, d3] => { results := [.lit (.bool true)], args := [d1, d2, d3] }
  | _ => none }
def factsAllRow : OpenClaim := { program := "ytmmnfkggfnokjaa", sum := "1fb088b5932bc367acc02de08219ed2e34147c5320d72670a0359f4775118f28", func := "sorrel/sorrellaw12.FactsAll", spec := "factsAll", inPlace := ["slices.overlaps[[]sorrel/api.Cell]"], unfollowed := true, recurses := true, plainKeys := false, apart := false }
def FactsAllSaid : Prop := factsAllRow.holds Try.pinned (OpenSpec.ofChange factsAllSpec)

/-- ITS FALSE NEIGHBOUR: 'it returns false'. Refute it at one input. -/
def factsAllWrong : ChangeSpec := { name := "factsAll", fn := fun _ => fun
  | [d1, d2, d3] => { results := [.lit (.bool false)], args := [d1, d2, d3] }
  | _ => none }
def FactsAllWrongFalsely : Prop := factsAllRow.holds Try.pinned (OpenSpec.ofChange factsAllWrong)

/-- 'sorrellaw12.FactsDiff': WHATEVER THE INPUT: true; the input reads as it did. -/
def factsDiffSpec : ChangeSpec := { name := "factsDiff", fn := fun _ => fun
  | [d1, d2] => { results := [.lit (.bool true)], args := [d1, d2] }
  | _ => none }
def factsDiffRow : OpenClaim := { program := "ytmmnfkggfnokjaa", sum := "1fb088b5932bc367acc02de08219ed2e34147c5320d72670a0359f4775118f28", func := "sorrel/sorrellaw12.FactsDiff", spec := "factsDiff", inPlace := ["slices.overlaps[[]sorrel/api.Cell]"], unfollowed := true, recurses := true, plainKeys := false, apart := false }
def FactsDiffSaid : Prop := factsDiffRow.holds Try.pinned (OpenSpec.ofChange factsDiffSpec)

/-- ITS FALSE NEIGHBOUR: 'it returns false'. Refute it at one input. -/
def factsDiffWrong : ChangeSpec := { name := "factsDiff", fn := fun _ => fun
  | [d1, d2] => { results := [.lit (.bool false)], args := [d1, d2] }
  | _ => none }
def FactsDiffWrongFalsely : Prop := factsDiffRow.holds Try.pinned (OpenSpec.ofChange factsDiffWrong)

/-- 'sorrellaw12.FactsBad': WHATEVER THE INPUT: true; the input reads as it did. -/
def factsBadSpec : ChangeSpec := { name := "factsBad", fn := fun _ => fun
  | [d1, d2] => { results := [.lit (.bool true)], args := [d1, d2] }
  | _ => none }
def factsBadRow : OpenClaim := { program := "ytmmnfkggfnokjaa", sum := "1fb088b5932bc367acc02de08219ed2e34147c5320d72670a0359f4775118f28", func := "sorrel/sorrellaw12.FactsBad", spec := "factsBad", inPlace := ["slices.overlaps[[]sorrel/api.Cell]"], unfollowed := true, recurses := true, plainKeys := false, apart := false }
def FactsBadSaid : Prop := factsBadRow.holds Try.pinned (OpenSpec.ofChange factsBadSpec)

/-- ITS FALSE NEIGHBOUR: 'it returns false'. Refute it at one input. -/
def factsBadWrong : ChangeSpec := { name := "factsBad", fn := fun _ => fun
  | [d1, d2] => { results := [.lit (.bool false)], args := [d1, d2] }
  | _ => none }
def FactsBadWrongFalsely : Prop := factsBadRow.holds Try.pinned (OpenSpec.ofChange factsBadWrong)

/-- 'sorrellaw12.FactsFull': WHATEVER THE INPUT: true; the input reads as it did. -/
def factsFullSpec : ChangeSpec := { name := "factsFull", fn := fun _ => fun
  | [d1, d2] => { results := [.lit (.bool true)], args := [d1, d2] }
  | _ => none }
def factsFullRow : OpenClaim := { program := "ytmmnfkggfnokjaa", sum := "1fb088b5932bc367acc02de08219ed2e34147c5320d72670a0359f4775118f28", func := "sorrel/sorrellaw12.FactsFull", spec := "factsFull", inPlace := ["slices.overlaps[[]sorrel/api.Cell]"], unfollowed := true, recurses := true, plainKeys := false, apart := false }
def FactsFullSaid : Prop := factsFullRow.holds Try.pinned (OpenSpec.ofChange factsFullSpec)

/-- ITS FALSE NEIGHBOUR: 'it returns false'. Refute it at one input. -/
def factsFullWrong : ChangeSpec := { name := "factsFull", fn := fun _ => fun
  | [d1, d2] => { results := [.lit (.bool false)], args := [d1, d2] }
  | _ => none }
def FactsFullWrongFalsely : Prop := factsFullRow.holds Try.pinned (OpenSpec.ofChange factsFullWrong)

/- THE SECOND FORM. 'bulk': how many values and letters a reading holds, each counted each time it is reached (what is shared counts as often as it is met; a slice's spare places count too). A statement '..UptoSaid' is the law's where the arguments, and the package variables that the reading takes, are together of bulk at most 1048576: NARROWER than '..Said'. Prove '..Said' where nothing that the law and all that it calls make is longer than what came in: it says more and counts as full. Else prove '..UptoSaid'. A law counts once. -/
mutual
def uptoBulk {H : Type} : DataW H → Nat
  | .lit (.string bytes) => bytes.length + 1
  | .lit _ => 1
  | .nil => 1
  | .ptr d => uptoBulk d + 1
  | .slice elems spare => uptoBulkAll elems + uptoBulkAll spare + 1
  | .agg parts => uptoBulkAll parts + 1
  | .iface _ d => uptoBulk d + 1
  | .map entries => uptoBulkEntries entries + 1
  | .held _ => 1
def uptoBulkAll {H : Type} : List (DataW H) → Nat
  | [] => 0
  | d :: r => uptoBulk d + uptoBulkAll r
def uptoBulkEntries {H : Type} : List (Lit × DataW H) → Nat
  | [] => 0
  | x :: r => uptoBulkEntry x + uptoBulkEntries r
def uptoBulkEntry {H : Type} : Lit × DataW H → Nat
  | (.string bytes, d) => bytes.length + uptoBulk d + 1
  | (_, d) => uptoBulk d + 1
 end
def uptoSmall : (H : Type) → List (DataW H) → Bool := fun _ ds => decide (uptoBulkAll ds ≤ 1048576)
def OpenSpec.upto (s : _root_.Go.ChangeSpec) : _root_.Go.OpenSpec := { _root_.Go.OpenSpec.ofChange s with cond := some uptoSmall }

/-- 'sorrellaw10.CodeTells', WHERE WHAT IT READS IS OF BULK AT MOST 1048576: true; the input reads as it did. -/
def codeTellsUptoRow : OpenClaim := { program := "ytmmnfkggfnokjaa", sum := "1fb088b5932bc367acc02de08219ed2e34147c5320d72670a0359f4775118f28", func := "sorrel/sorrellaw10.CodeTells", spec := "codeTells", unfollowed := true, recurses := true, plainKeys := false, apart := false, narrowed := true }
def CodeTellsUptoSaid : Prop := codeTellsUptoRow.holds Try.pinned (OpenSpec.upto codeTellsSpec)

/-- 'sorrellaw10.CodeSource', WHERE WHAT IT READS IS OF BULK AT MOST 1048576: true; the input reads as it did. -/
def codeSourceUptoRow : OpenClaim := { program := "ytmmnfkggfnokjaa", sum := "1fb088b5932bc367acc02de08219ed2e34147c5320d72670a0359f4775118f28", func := "sorrel/sorrellaw10.CodeSource", spec := "codeSource", unfollowed := true, recurses := true, plainKeys := false, apart := false, narrowed := true }
def CodeSourceUptoSaid : Prop := codeSourceUptoRow.holds Try.pinned (OpenSpec.upto codeSourceSpec)

/-- 'sorrellaw08.HeapTells', WHERE WHAT IT READS IS OF BULK AT MOST 1048576: true; the input reads as it did. -/
def heapTellsUptoRow : OpenClaim := { program := "ytmmnfkggfnokjaa", sum := "1fb088b5932bc367acc02de08219ed2e34147c5320d72670a0359f4775118f28", func := "sorrel/sorrellaw08.HeapTells", spec := "heapTells", unfollowed := true, recurses := true, plainKeys := false, apart := false, narrowed := true }
def HeapTellsUptoSaid : Prop := heapTellsUptoRow.holds Try.pinned (OpenSpec.upto heapTellsSpec)

/-- 'sorrellaw08.HeapAlike', WHERE WHAT IT READS IS OF BULK AT MOST 1048576: true; the input reads as it did. -/
def heapAlikeUptoRow : OpenClaim := { program := "ytmmnfkggfnokjaa", sum := "1fb088b5932bc367acc02de08219ed2e34147c5320d72670a0359f4775118f28", func := "sorrel/sorrellaw08.HeapAlike", spec := "heapAlike", unfollowed := true, recurses := true, plainKeys := false, apart := false, narrowed := true }
def HeapAlikeUptoSaid : Prop := heapAlikeUptoRow.holds Try.pinned (OpenSpec.upto heapAlikeSpec)

/-- 'sorrellaw12.FactsSet', WHERE WHAT IT READS IS OF BULK AT MOST 1048576: true; the input reads as it did. -/
def factsSetUptoRow : OpenClaim := { program := "ytmmnfkggfnokjaa", sum := "1fb088b5932bc367acc02de08219ed2e34147c5320d72670a0359f4775118f28", func := "sorrel/sorrellaw12.FactsSet", spec := "factsSet", inPlace := ["slices.overlaps[[]sorrel/api.Cell]"], unfollowed := true, recurses := true, plainKeys := false, apart := false, narrowed := true }
def FactsSetUptoSaid : Prop := factsSetUptoRow.holds Try.pinned (OpenSpec.upto factsSetSpec)

/-- 'sorrellaw12.FactsOrder', WHERE WHAT IT READS IS OF BULK AT MOST 1048576: true; the input reads as it did. -/
def factsOrderUptoRow : OpenClaim := { program := "ytmmnfkggfnokjaa", sum := "1fb088b5932bc367acc02de08219ed2e34147c5320d72670a0359f4775118f28", func := "sorrel/sorrellaw12.FactsOrder", spec := "factsOrder", inPlace := ["slices.overlaps[[]sorrel/api.Cell]"], unfollowed := true, recurses := true, plainKeys := false, apart := false, narrowed := true }
def FactsOrderUptoSaid : Prop := factsOrderUptoRow.holds Try.pinned (OpenSpec.upto factsOrderSpec)

/-- 'sorrellaw12.FactsAll', WHERE WHAT IT READS IS OF BULK AT MOST 1048576: true; the input reads as it did. -/
def factsAllUptoRow : OpenClaim := { program := "ytmmnfkggfnokjaa", sum := "1fb088b5932bc367acc02de08219ed2e34147c5320d72670a0359f4775118f28", func := "sorrel/sorrellaw12.FactsAll", spec := "factsAll", inPlace := ["slices.overlaps[[]sorrel/api.Cell]"], unfollowed := true, recurses := true, plainKeys := false, apart := false, narrowed := true }
def FactsAllUptoSaid : Prop := factsAllUptoRow.holds Try.pinned (OpenSpec.upto factsAllSpec)

/-- 'sorrellaw12.FactsDiff', WHERE WHAT IT READS IS OF BULK AT MOST 1048576: true; the input reads as it did. -/
def factsDiffUptoRow : OpenClaim := { program := "ytmmnfkggfnokjaa", sum := "1fb088b5932bc367acc02de08219ed2e34147c5320d72670a0359f4775118f28", func := "sorrel/sorrellaw12.FactsDiff", spec := "factsDiff", inPlace := ["slices.overlaps[[]sorrel/api.Cell]"], unfollowed := true, recurses := true, plainKeys := false, apart := false, narrowed := true }
def FactsDiffUptoSaid : Prop := factsDiffUptoRow.holds Try.pinned (OpenSpec.upto factsDiffSpec)

/-- 'sorrellaw12.FactsBad', WHERE WHAT IT READS IS OF BULK AT MOST 1048576: true; the input reads as it did. -/
def factsBadUptoRow : OpenClaim := { program := "ytmmnfkggfnokjaa", sum := "1fb088b5932bc367acc02de08219ed2e34147c5320d72670a0359f4775118f28", func := "sorrel/sorrellaw12.FactsBad", spec := "factsBad", inPlace := ["slices.overlaps[[]sorrel/api.Cell]"], unfollowed := true, recurses := true, plainKeys := false, apart := false, narrowed := true }
def FactsBadUptoSaid : Prop := factsBadUptoRow.holds Try.pinned (OpenSpec.upto factsBadSpec)

/-- 'sorrellaw12.FactsFull', WHERE WHAT IT READS IS OF BULK AT MOST 1048576: true; the input reads as it did. -/
def factsFullUptoRow : OpenClaim := { program := "ytmmnfkggfnokjaa", sum := "1fb088b5932bc367acc02de08219ed2e34147c5320d72670a0359f4775118f28", func := "sorrel/sorrellaw12.FactsFull", spec := "factsFull", inPlace := ["slices.overlaps[[]sorrel/api.Cell]"], unfollowed := true, recurses := true, plainKeys := false, apart := false, narrowed := true }
def FactsFullUptoSaid : Prop := factsFullUptoRow.holds Try.pinned (OpenSpec.upto factsFullSpec)

end Rows
end Go.Proofs.Ytmmnfkggfnokjaa
