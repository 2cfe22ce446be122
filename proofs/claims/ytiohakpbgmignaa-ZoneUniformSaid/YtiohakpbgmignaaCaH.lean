/-
  Calendar: the reference's number of a date, its date of a number, its weekdays and minutes.
-/
import Derived.Test.YtiohakpbgmignaaCaG
set_option linter.unusedVariables false
set_option linter.unusedSimpArgs false
namespace Go.Proofs.Ytiohakpbgmignaa
open Go.RowKit

theorem yd_in {k : Int} (h0 : 1999 ≤ k) (h1 : k ≤ 2101) : -365 ≤ yday k ∧ yday k ≤ 40000 := by unfold yday; omega
theorem yd_first : yday 1999 = -365 := by decide
def lastDay : Int := 36889
theorem num_last : numV 2100 12 31 = 36889 ∧ numE 2100 12 31 = 0 := ⟨by decide, by decide⟩
theorem md_12' (y : Int) : yday y + mdB (leapB y) 12 = yday (y + 1) := by rw [yd_succ, md_12]; omega
end Go.Proofs.Ytiohakpbgmignaa

