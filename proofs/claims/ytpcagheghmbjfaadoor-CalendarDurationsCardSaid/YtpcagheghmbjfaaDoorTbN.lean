/-
  The library's iterator over the lines of a text of bytes.
-/
import Derived.Test.YtpcagheghmbjfaaDoorTbM
set_option linter.unusedVariables false
set_option linter.unusedSimpArgs false
namespace Go.Proofs.YtpcagheghmbjfaaDoor
open Go.RowKit Go.Shelf
attribute [local go_sem] Oper.semAt_some

/-- The state of the iterator between two rounds. -/
structure LnI (S : Nat → Prop) (w wr : World) (bs : Nat) (l : List UInt8) (J : List (List UInt8) → World → Prop) (pre : List (List UInt8)) (a : Option Addr) (r : List UInt8) (n c : Nat) : Prop where
  j : J pre wr
  ps : lp l = pre ++ lp r
  box : Boxed wr bs 63 (.slice a n c)
  inn : BIn S wr a r
  len : r.length = n
  cap : n ≤ c
  max : c ≤ 9223372036854775807
  old : ∀ k, S k → wr.heap[k]? = w.heap[k]?

theorem keep_drew {S : Nat → Prop} {bs : Nat} {W W' : World} (h : KeepS S bs W W') : KeepS S bs W W'.drew := h
end Go.Proofs.YtpcagheghmbjfaaDoor

