/-
  Calendar: the program's isDate.
-/
import Derived.Test.YtiohakpbgmignaaCaC
import Derived.Deep.RegionHeld3
set_option linter.unusedVariables false
set_option linter.unusedSimpArgs false
set_option warningAsError false
namespace Go.Proofs.Ytiohakpbgmignaa
open Go.RowKit

theorem quietQ {P : Program} {f : FuncId} {args : Array Value} {w : World} {n : Nat} {b : Bool} (h : Calls P f args (w.drewN n) (RetQ (w.drewN n) b)) : Calls P f args (w.drewN n) fun e w'' => e = .returned (.bool b) ∧ ∃ m, w'' = w.drewN m :=
  h.mono fun _ _ ⟨he, hm⟩ => ⟨he, n, hm.symm⟩
theorem quietI {P : Program} {f : FuncId} {args : Array Value} {w : World} {n : Nat} {z : Int} (h : Calls P f args (w.drewN n) (RetI0 (w.drewN n) z)) : Calls P f args (w.drewN n) fun e w'' => e = .returned (.int .i64 z) ∧ ∃ m, w'' = w.drewN m :=
  h.mono fun _ _ ⟨he, hm⟩ => ⟨he, n, hm.symm⟩
end Go.Proofs.Ytiohakpbgmignaa

