/-
  The library's cutting at a byte.
-/
import Derived.Test.YtiohakpbgmignaaTbA
set_option linter.unusedVariables false
set_option linter.unusedSimpArgs false
namespace Go.Proofs.Ytiohakpbgmignaa
open Go.RowKit

theorem idx_hi : ∀ (l : List UInt8) (b : UInt8), idx l b < l.length
  | [], b => by show Lib.indexByte [] b < _; simp [Lib.indexByte]
  | c :: l, b => by
    have ih := idx_hi l b
    have h0 := idx_lo l b
    unfold idx at *
    unfold Lib.indexByte
    split
    · simp only [List.length_cons]; omega
    · split <;> simp only [List.length_cons] <;> omega

def RetCutS (w : World) (a : Option Addr) (i c : Nat) (e : Ending) (w' : World) : Prop := ∃ v, e = .returned (.tuple #[.slice a i c, v, .bool true]) ∧ ∃ q, w' = w.drewN q
end Go.Proofs.Ytiohakpbgmignaa

