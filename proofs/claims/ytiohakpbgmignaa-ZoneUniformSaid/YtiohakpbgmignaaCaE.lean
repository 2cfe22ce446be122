/-
  Calendar: the number of a day, on both sides, of a date that is one.
-/
import Derived.Test.YtiohakpbgmignaaCaC
import Derived.Deep.RegionHeld3
set_option linter.unusedVariables false
set_option linter.unusedSimpArgs false
namespace Go.Proofs.Ytiohakpbgmignaa
open Go.RowKit

def RetI3 (w : World) (z : Int) (e : Ending) (w' : World) : Prop := e = .returned (.int .i64 z) ∧ Below w.heap.size w w'
end Go.Proofs.Ytiohakpbgmignaa

