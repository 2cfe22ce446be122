/-
  A number that comes in as a parameter.
-/
import Derived.Test.YtplmfdgdbolcaaaMakesW
set_option linter.unusedVariables false
namespace Go.Proofs.Ytplmfdgdbolcaaa
open Go.RowKit
def InP (w : World) (A : Option Addr) (n c : Nat) (ds : List Nat) : Prop := Dgs w w.heap.size A n ds ∧ n ≤ c ∧ c ≤ maxLen ∧ n ≤ 140737488351232
theorem InP.i {w : World} {A : Option Addr} {n c : Nat} {ds : List Nat} (h : InP w A n c ds) (s : Bool) (hn : n ≤ 12) : IntAt w s A n c (zOf s (val ds)) := ⟨ds, h.1, h.2.1, h.2.2.1, rfl, by omega⟩
theorem InP.z {w : World} {A : Option Addr} {n c : Nat} {ds : List Nat} (h : InP w A n c ds) (s : Bool) (hn : n ≤ 12) : Sz (zOf s (val ds)) 12 := (sz_of h.1 s).mono hn
end Go.Proofs.Ytplmfdgdbolcaaa
