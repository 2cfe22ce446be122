/-
  No cell of these rows narrows 'for every input' (looked for: loops, veiled, ifaces, maps, wideKeys, modest, calm, conditions, laid).
  DERIVED. THE GIVEN ROWS OF THIS SEAT. 9 by the template 'for every input the law returns true; each argument reads behind the call as it read before'; 0 by the template 'total and deterministic' (their statements: YtgpmakljabiknaaTotals.lean).
  GIVEN WITH THE SEED: the statements are not yours to turn. If you find one false, say at which input.
  Laid BY PROGRAM, IN A SANDBOX (cutbox-rows.mjs): the forced cells as the released guide's own fill.sh prints them over the translation 4f539070afd6c855… (all of the seat's roots in one cut). By AI agents, Wed Nov 11 2026. No macro, syntax, notation, axiom, sorry.
-/
import Derived.Test.YtgpmakljabiknaaChecked
import GoSem.Claim
import GoSem.ClaimJoined
import GoSem.ClaimMapViews
import Derived.JoinedTies
import Derived.KernelRfl
namespace Go.Proofs.Ytgpmakljabiknaa
/- THE CELL 'sum', in the pinned program and in every row, IS THE sha256 OF THE DUMP (.gsa) THAT YtgpmakljabiknaaProg.lean LOADS. Nothing in Lean hashes anything: it is a label: what it is worth is what the hold of that sum in a sandbox is worth. -/
noncomputable def Try.pinned : Pinned := { name := "ytgpmakljabiknaa", sum := "4f539070afd6c8550cd094b80feebdfc6d75c1a5343617e770c4e528a0c8e8aa", checked := Try.checked }
namespace Rows
def none {H : Type} : Left H := { results := [], args := [] }

/-- 'pairinglaw1.IntegerArithmetic': WHATEVER THE INPUT: true; the input reads as it did. -/
def integerArithmeticSpec : ChangeSpec := { name := "integerArithmetic", fn := fun _ => fun
  | [d1, d2] => { results := [.lit (.bool true)], args := [d1, d2] }
  | _ => none }
def integerArithmeticRow : OpenClaim := { program := "ytgpmakljabiknaa", sum := "4f539070afd6c8550cd094b80feebdfc6d75c1a5343617e770c4e528a0c8e8aa", func := "pairing/pairinglaw1.IntegerArithmetic", spec := "integerArithmetic", apart := false }
def IntegerArithmeticSaid : Prop := integerArithmeticRow.holds Try.pinned (OpenSpec.ofChange integerArithmeticSpec)

/-- ITS FALSE NEIGHBOUR: 'it returns false'. Refute it at one input. -/
def integerArithmeticWrong : ChangeSpec := { name := "integerArithmetic", fn := fun _ => fun
  | [d1, d2] => { results := [.lit (.bool false)], args := [d1, d2] }
  | _ => none }
def IntegerArithmeticWrongFalsely : Prop := integerArithmeticRow.holds Try.pinned (OpenSpec.ofChange integerArithmeticWrong)

/-- 'pairinglaw1.IntegerDivision': WHATEVER THE INPUT: true; the input reads as it did. -/
def integerDivisionSpec : ChangeSpec := { name := "integerDivision", fn := fun _ => fun
  | [d1, d2] => { results := [.lit (.bool true)], args := [d1, d2] }
  | _ => none }
def integerDivisionRow : OpenClaim := { program := "ytgpmakljabiknaa", sum := "4f539070afd6c8550cd094b80feebdfc6d75c1a5343617e770c4e528a0c8e8aa", func := "pairing/pairinglaw1.IntegerDivision", spec := "integerDivision", apart := false }
def IntegerDivisionSaid : Prop := integerDivisionRow.holds Try.pinned (OpenSpec.ofChange integerDivisionSpec)

/-- ITS FALSE NEIGHBOUR: 'it returns false'. Refute it at one input. -/
def integerDivisionWrong : ChangeSpec := { name := "integerDivision", fn := fun _ => fun
  | [d1, d2] => { results := [.lit (.bool false)], args := [d1, d2] }
  | _ => none }
def IntegerDivisionWrongFalsely : Prop := integerDivisionRow.holds Try.pinned (OpenSpec.ofChange integerDivisionWrong)

/-- 'pairinglaw1.IntegerEuclid': WHATEVER THE INPUT: true; the input reads as it did. -/
def integerEuclidSpec : ChangeSpec := { name := "integerEuclid", fn := fun _ => fun
  | [d1, d2] => { results := [.lit (.bool true)], args := [d1, d2] }
  | _ => none }
def integerEuclidRow : OpenClaim := { program := "ytgpmakljabiknaa", sum := "4f539070afd6c8550cd094b80feebdfc6d75c1a5343617e770c4e528a0c8e8aa", func := "pairing/pairinglaw1.IntegerEuclid", spec := "integerEuclid", apart := false }
def IntegerEuclidSaid : Prop := integerEuclidRow.holds Try.pinned (OpenSpec.ofChange integerEuclidSpec)

/-- ITS FALSE NEIGHBOUR: 'it returns false'. Refute it at one input. -/
def integerEuclidWrong : ChangeSpec := { name := "integerEuclid", fn := fun _ => fun
  | [d1, d2] => { results := [.lit (.bool false)], args := [d1, d2] }
  | _ => none }
def IntegerEuclidWrongFalsely : Prop := integerEuclidRow.holds Try.pinned (OpenSpec.ofChange integerEuclidWrong)

/-- 'pairinglaw1.IntegerDivisors': WHATEVER THE INPUT: true; the input reads as it did. -/
def integerDivisorsSpec : ChangeSpec := { name := "integerDivisors", fn := fun _ => fun
  | [d1, d2] => { results := [.lit (.bool true)], args := [d1, d2] }
  | _ => none }
def integerDivisorsRow : OpenClaim := { program := "ytgpmakljabiknaa", sum := "4f539070afd6c8550cd094b80feebdfc6d75c1a5343617e770c4e528a0c8e8aa", func := "pairing/pairinglaw1.IntegerDivisors", spec := "integerDivisors", apart := false }
def IntegerDivisorsSaid : Prop := integerDivisorsRow.holds Try.pinned (OpenSpec.ofChange integerDivisorsSpec)

/-- ITS FALSE NEIGHBOUR: 'it returns false'. Refute it at one input. -/
def integerDivisorsWrong : ChangeSpec := { name := "integerDivisors", fn := fun _ => fun
  | [d1, d2] => { results := [.lit (.bool false)], args := [d1, d2] }
  | _ => none }
def IntegerDivisorsWrongFalsely : Prop := integerDivisorsRow.holds Try.pinned (OpenSpec.ofChange integerDivisorsWrong)

/-- 'pairinglaw1.IntegerBezout': WHATEVER THE INPUT: true; the input reads as it did. -/
def integerBezoutSpec : ChangeSpec := { name := "integerBezout", fn := fun _ => fun
  | [d1, d2] => { results := [.lit (.bool true)], args := [d1, d2] }
  | _ => none }
def integerBezoutRow : OpenClaim := { program := "ytgpmakljabiknaa", sum := "4f539070afd6c8550cd094b80feebdfc6d75c1a5343617e770c4e528a0c8e8aa", func := "pairing/pairinglaw1.IntegerBezout", spec := "integerBezout", apart := false }
def IntegerBezoutSaid : Prop := integerBezoutRow.holds Try.pinned (OpenSpec.ofChange integerBezoutSpec)

/-- ITS FALSE NEIGHBOUR: 'it returns false'. Refute it at one input. -/
def integerBezoutWrong : ChangeSpec := { name := "integerBezout", fn := fun _ => fun
  | [d1, d2] => { results := [.lit (.bool false)], args := [d1, d2] }
  | _ => none }
def IntegerBezoutWrongFalsely : Prop := integerBezoutRow.holds Try.pinned (OpenSpec.ofChange integerBezoutWrong)

/-- 'pairinglaw1.IntegerPowers': WHATEVER THE INPUT: true; the input reads as it did. -/
def integerPowersSpec : ChangeSpec := { name := "integerPowers", fn := fun _ => fun
  | [d1, d2] => { results := [.lit (.bool true)], args := [d1, d2] }
  | _ => none }
def integerPowersRow : OpenClaim := { program := "ytgpmakljabiknaa", sum := "4f539070afd6c8550cd094b80feebdfc6d75c1a5343617e770c4e528a0c8e8aa", func := "pairing/pairinglaw1.IntegerPowers", spec := "integerPowers", apart := false }
def IntegerPowersSaid : Prop := integerPowersRow.holds Try.pinned (OpenSpec.ofChange integerPowersSpec)

/-- ITS FALSE NEIGHBOUR: 'it returns false'. Refute it at one input. -/
def integerPowersWrong : ChangeSpec := { name := "integerPowers", fn := fun _ => fun
  | [d1, d2] => { results := [.lit (.bool false)], args := [d1, d2] }
  | _ => none }
def IntegerPowersWrongFalsely : Prop := integerPowersRow.holds Try.pinned (OpenSpec.ofChange integerPowersWrong)

/-- 'pairinglaw1.IntegerInt64': WHATEVER THE INPUT: true; the input reads as it did. -/
def integerInt64Spec : ChangeSpec := { name := "integerInt64", fn := fun _ => fun
  | [d1, d2] => { results := [.lit (.bool true)], args := [d1, d2] }
  | _ => none }
def integerInt64Row : OpenClaim := { program := "ytgpmakljabiknaa", sum := "4f539070afd6c8550cd094b80feebdfc6d75c1a5343617e770c4e528a0c8e8aa", func := "pairing/pairinglaw1.IntegerInt64", spec := "integerInt64", apart := false }
def IntegerInt64Said : Prop := integerInt64Row.holds Try.pinned (OpenSpec.ofChange integerInt64Spec)

/-- ITS FALSE NEIGHBOUR: 'it returns false'. Refute it at one input. -/
def integerInt64Wrong : ChangeSpec := { name := "integerInt64", fn := fun _ => fun
  | [d1, d2] => { results := [.lit (.bool false)], args := [d1, d2] }
  | _ => none }
def IntegerInt64WrongFalsely : Prop := integerInt64Row.holds Try.pinned (OpenSpec.ofChange integerInt64Wrong)

/-- 'pairinglaw1.IntegerTexts': WHATEVER THE INPUT: true; the input reads as it did. -/
def integerTextsSpec : ChangeSpec := { name := "integerTexts", fn := fun _ => fun
  | [d1, d2] => { results := [.lit (.bool true)], args := [d1, d2] }
  | _ => none }
def integerTextsRow : OpenClaim := { program := "ytgpmakljabiknaa", sum := "4f539070afd6c8550cd094b80feebdfc6d75c1a5343617e770c4e528a0c8e8aa", func := "pairing/pairinglaw1.IntegerTexts", spec := "integerTexts", apart := false }
def IntegerTextsSaid : Prop := integerTextsRow.holds Try.pinned (OpenSpec.ofChange integerTextsSpec)

/-- ITS FALSE NEIGHBOUR: 'it returns false'. Refute it at one input. -/
def integerTextsWrong : ChangeSpec := { name := "integerTexts", fn := fun _ => fun
  | [d1, d2] => { results := [.lit (.bool false)], args := [d1, d2] }
  | _ => none }
def IntegerTextsWrongFalsely : Prop := integerTextsRow.holds Try.pinned (OpenSpec.ofChange integerTextsWrong)

/-- 'pairinglaw1.IntegerRing': WHATEVER THE INPUT: true; the input reads as it did. -/
def integerRingSpec : ChangeSpec := { name := "integerRing", fn := fun _ => fun
  | [d1, d2, d3] => { results := [.lit (.bool true)], args := [d1, d2, d3] }
  | _ => none }
def integerRingRow : OpenClaim := { program := "ytgpmakljabiknaa", sum := "4f539070afd6c8550cd094b80feebdfc6d75c1a5343617e770c4e528a0c8e8aa", func := "pairing/pairinglaw1.IntegerRing", spec := "integerRing", apart := false }
def IntegerRingSaid : Prop := integerRingRow.holds Try.pinned (OpenSpec.ofChange integerRingSpec)

/-- ITS FALSE NEIGHBOUR: 'it returns false'. Refute it at one input. -/
def integerRingWrong : ChangeSpec := { name := "integerRing", fn := fun _ => fun
  | [d1, d2, d3] => { results := [.lit (.bool false)], args := [d1, d2, d3] }
  | _ => none }
def IntegerRingWrongFalsely : Prop := integerRingRow.holds Try.pinned (OpenSpec.ofChange integerRingWrong)

/- THE SECOND FORM. 'bulk': how many values and letters a reading holds, each counted each time it is reached (what is shared counts as often as it is met; a slice's spare places count too). A statement '..UptoSaid' is the law's where the arguments, and the package variables that the reading takes, are together of bulk at most 1048576: NARROWER than '..Said'. Prove '..Said' where nothing that the law and all that it calls make is longer than what came in: it says more and counts as full. Else prove '..UptoSaid'. A law counts once. -/
mutual
def uptoBulk {H : Type} : DataW H → Nat
  | .lit (.string bytes) => bytes.length + 1
  | .lit _ => 1
  | .nil => 1
  | .ptr d => uptoBulk d + 1
  | .slice elems spare => uptoBulkAll elems + uptoBulkAll spare + 1
  | .agg parts => uptoBulkAll parts + 1
  | .iface _ d => uptoBulk d + 1
  | .map entries => uptoBulkEntries entries + 1
  | .held _ => 1
def uptoBulkAll {H : Type} : List (DataW H) → Nat
  | [] => 0
  | d :: r => uptoBulk d + uptoBulkAll r
def uptoBulkEntries {H : Type} : List (Lit × DataW H) → Nat
  | [] => 0
  | x :: r => uptoBulkEntry x + uptoBulkEntries r
def uptoBulkEntry {H : Type} : Lit × DataW H → Nat
  | (.string bytes, d) => bytes.length + uptoBulk d + 1
  | (_, d) => uptoBulk d + 1
 end
def uptoSmall : (H : Type) → List (DataW H) → Bool := fun _ ds => decide (uptoBulkAll ds ≤ 1048576)
def OpenSpec.upto (s : _root_.Go.ChangeSpec) : _root_.Go.OpenSpec := { _root_.Go.OpenSpec.ofChange s with cond := some uptoSmall }

/-- 'pairinglaw1.IntegerArithmetic', WHERE WHAT IT READS IS OF BULK AT MOST 1048576: true; the input reads as it did. -/
def integerArithmeticUptoRow : OpenClaim := { program := "ytgpmakljabiknaa", sum := "4f539070afd6c8550cd094b80feebdfc6d75c1a5343617e770c4e528a0c8e8aa", func := "pairing/pairinglaw1.IntegerArithmetic", spec := "integerArithmetic", apart := false, narrowed := true }
def IntegerArithmeticUptoSaid : Prop := integerArithmeticUptoRow.holds Try.pinned (OpenSpec.upto integerArithmeticSpec)

/-- 'pairinglaw1.IntegerDivision', WHERE WHAT IT READS IS OF BULK AT MOST 1048576: true; the input reads as it did. -/
def integerDivisionUptoRow : OpenClaim := { program := "ytgpmakljabiknaa", sum := "4f539070afd6c8550cd094b80feebdfc6d75c1a5343617e770c4e528a0c8e8aa", func := "pairing/pairinglaw1.IntegerDivision", spec := "integerDivision", apart := false, narrowed := true }
def IntegerDivisionUptoSaid : Prop := integerDivisionUptoRow.holds Try.pinned (OpenSpec.upto integerDivisionSpec)

/-- 'pairinglaw1.IntegerEuclid', WHERE WHAT IT READS IS OF BULK AT MOST 1048576: true; the input reads as it did. -/
def integerEuclidUptoRow : OpenClaim := { program := "ytgpmakljabiknaa", sum := "4f539070afd6c8550cd094b80feebdfc6d75c1a5343617e770c4e528a0c8e8aa", func := "pairing/pairinglaw1.IntegerEuclid", spec := "integerEuclid", apart := false, narrowed := true }
def IntegerEuclidUptoSaid : Prop := integerEuclidUptoRow.holds Try.pinned (OpenSpec.upto integerEuclidSpec)

/-- 'pairinglaw1.IntegerDivisors', WHERE WHAT IT READS IS OF BULK AT MOST 1048576: true; the input reads as it did. -/
def integerDivisorsUptoRow : OpenClaim := { program := "ytgpmakljabiknaa", sum := "4f539070afd6c8550cd094b80feebdfc6d75c1a5343617e770c4e528a0c8e8aa", func := "pairing/pairinglaw1.IntegerDivisors", spec := "integerDivisors", apart := false, narrowed := true }
def IntegerDivisorsUptoSaid : Prop := integerDivisorsUptoRow.holds Try.pinned (OpenSpec.upto integerDivisorsSpec)

/-- 'pairinglaw1.IntegerBezout', WHERE WHAT IT READS IS OF BULK AT MOST 1048576: true; the input reads as it did. -/
def integerBezoutUptoRow : OpenClaim := { program := "ytgpmakljabiknaa", sum := "4f539070afd6c8550cd094b80feebdfc6d75c1a5343617e770c4e528a0c8e8aa", func := "pairing/pairinglaw1.IntegerBezout", spec := "integerBezout", apart := false, narrowed := true }
def IntegerBezoutUptoSaid : Prop := integerBezoutUptoRow.holds Try.pinned (OpenSpec.upto integerBezoutSpec)

/-- 'pairinglaw1.IntegerPowers', WHERE WHAT IT READS IS OF BULK AT MOST 1048576: true; the input reads as it did. -/
def integerPowersUptoRow : OpenClaim := { program := "ytgpmakljabiknaa", sum := "4f539070afd6c8550cd094b80feebdfc6d75c1a5343617e770c4e528a0c8e8aa", func := "pairing/pairinglaw1.IntegerPowers", spec := "integerPowers", apart := false, narrowed := true }
def IntegerPowersUptoSaid : Prop := integerPowersUptoRow.holds Try.pinned (OpenSpec.upto integerPowersSpec)

/-- 'pairinglaw1.IntegerInt64', WHERE WHAT IT READS IS OF BULK AT MOST 1048576: true; the input reads as it did. -/
def integerInt64UptoRow : OpenClaim := { program := "ytgpmakljabiknaa", sum := "4f539070afd6c8550cd094b80feebdfc6d75c1a5343617e770c4e528a0c8e8aa", func := "pairing/pairinglaw1.IntegerInt64", spec := "integerInt64", apart := false, narrowed := true }
def IntegerInt64UptoSaid : Prop := integerInt64UptoRow.holds Try.pinned (OpenSpec.upto integerInt64Spec)

/-- 'pairinglaw1.IntegerTexts', WHERE WHAT IT READS IS OF BULK AT MOST 1048576: true; the input reads as it did. -/
def integerTextsUptoRow : OpenClaim := { program := "ytgpmakljabiknaa", sum := "4f539070afd6c8550cd094b80feebdfc6d75c1a5343617e770c4e528a0c8e8aa", func := "pairing/pairinglaw1.IntegerTexts", spec := "integerTexts", apart := false, narrowed := true }
def IntegerTextsUptoSaid : Prop := integerTextsUptoRow.holds Try.pinned (OpenSpec.upto integerTextsSpec)

/-- 'pairinglaw1.IntegerRing', WHERE WHAT IT READS IS OF BULK AT MOST 1048576: true; the input reads as it did. -/
def integerRingUptoRow : OpenClaim := { program := "ytgpmakljabiknaa", sum := "4f539070afd6c8550cd094b80feebdfc6d75c1a5343617e770c4e528a0c8e8aa", func := "pairing/pairinglaw1.IntegerRing", spec := "integerRing", apart := false, narrowed := true }
def IntegerRingUptoSaid : Prop := integerRingUptoRow.holds Try.pinned (OpenSpec.upto integerRingSpec)

end Rows
end Go.Proofs.Ytgpmakljabiknaa
