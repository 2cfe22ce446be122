/-
  Calendar: the program's date of a day.
-/
import Derived.Test.YtiohakpbgmignaaCaE
set_option linter.unusedVariables false
set_option linter.unusedSimpArgs false
namespace Go.Proofs.Ytiohakpbgmignaa
open Go.RowKit

def RetDay (w : World) (day : Int) (e : Ending) (w' : World) : Prop := ∃ (y d : Int) (m : Nat), e = .returned (dateV y m d) ∧ IsD y m d ∧ dayN y m d = day ∧ Below w.heap.size w w'
end Go.Proofs.Ytiohakpbgmignaa

