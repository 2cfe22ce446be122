/-
  No cell of these rows narrows 'for every input' (looked for: loops, veiled, ifaces, maps, wideKeys, modest, calm, conditions, laid).
  DERIVED. THE GIVEN ROWS OF THIS SEAT. 11 by the template 'for every input the law returns true; each argument reads behind the call as it read before'; 0 by the template 'total and deterministic' (their statements: YtplmfdgdbolcaaaTotals.lean).
  GIVEN WITH THE SEED: the statements are not yours to turn. If you find one false, say at which input.
  Laid BY PROGRAM, IN A SANDBOX (cutbox-rows.mjs): the forced cells as the released guide's own fill.sh prints them over the translation f748e51313639af1… (all of the seat's roots in one cut). By AI agents, Wed Nov 11 2026. No macro, syntax, notation, axiom, sorry.
-/
import Derived.Test.YtplmfdgdbolcaaaChecked
import GoSem.Claim
import GoSem.ClaimJoined
import GoSem.ClaimMapViews
import Derived.JoinedTies
import Derived.KernelRfl
namespace Go.Proofs.Ytplmfdgdbolcaaa
/- THE CELL 'sum', in the pinned program and in every row, IS THE sha256 OF THE DUMP (.gsa) THAT YtplmfdgdbolcaaaProg.lean LOADS. Nothing in Lean hashes anything: it is a label: what it is worth is what the hold of that sum in a sandbox is worth. -/
noncomputable def Try.pinned : Pinned := { name := "ytplmfdgdbolcaaa", sum := "f748e51313639af16d40f5c0e4d714c5a08e73bece620860e6808fa9bde11b6f", checked := Try.checked }
namespace Rows
def none {H : Type} : Left H := { results := [], args := [] }

/-- 'pairinglaw1.IntegerDivisors': WHATEVER THE INPUT: true; the input reads as it did. -/
def integerDivisorsSpec : ChangeSpec := { name := "integerDivisors", fn := fun _ => fun
  | [d1, d2] => { results := [.lit (.bool true)], args := [d1, d2] }
  | _ => none }
def integerDivisorsRow : OpenClaim := { program := "ytplmfdgdbolcaaa", sum := "f748e51313639af16d40f5c0e4d714c5a08e73bece620860e6808fa9bde11b6f", func := "pairing/pairinglaw1.IntegerDivisors", spec := "integerDivisors", apart := false }
def IntegerDivisorsSaid : Prop := integerDivisorsRow.holds Try.pinned (OpenSpec.ofChange integerDivisorsSpec)

/-- ITS FALSE NEIGHBOUR: 'it returns false'. Refute it at one input. -/
def integerDivisorsWrong : ChangeSpec := { name := "integerDivisors", fn := fun _ => fun
  | [d1, d2] => { results := [.lit (.bool false)], args := [d1, d2] }
  | _ => none }
def IntegerDivisorsWrongFalsely : Prop := integerDivisorsRow.holds Try.pinned (OpenSpec.ofChange integerDivisorsWrong)

/-- 'pairinglaw1.IntegerPowers': WHATEVER THE INPUT: true; the input reads as it did. -/
def integerPowersSpec : ChangeSpec := { name := "integerPowers", fn := fun _ => fun
  | [d1, d2] => { results := [.lit (.bool true)], args := [d1, d2] }
  | _ => none }
def integerPowersRow : OpenClaim := { program := "ytplmfdgdbolcaaa", sum := "f748e51313639af16d40f5c0e4d714c5a08e73bece620860e6808fa9bde11b6f", func := "pairing/pairinglaw1.IntegerPowers", spec := "integerPowers", apart := false }
def IntegerPowersSaid : Prop := integerPowersRow.holds Try.pinned (OpenSpec.ofChange integerPowersSpec)

/-- ITS FALSE NEIGHBOUR: 'it returns false'. Refute it at one input. -/
def integerPowersWrong : ChangeSpec := { name := "integerPowers", fn := fun _ => fun
  | [d1, d2] => { results := [.lit (.bool false)], args := [d1, d2] }
  | _ => none }
def IntegerPowersWrongFalsely : Prop := integerPowersRow.holds Try.pinned (OpenSpec.ofChange integerPowersWrong)

/-- 'pairinglaw1.IntegerTexts': WHATEVER THE INPUT: true; the input reads as it did. -/
def integerTextsSpec : ChangeSpec := { name := "integerTexts", fn := fun _ => fun
  | [d1, d2] => { results := [.lit (.bool true)], args := [d1, d2] }
  | _ => none }
def integerTextsRow : OpenClaim := { program := "ytplmfdgdbolcaaa", sum := "f748e51313639af16d40f5c0e4d714c5a08e73bece620860e6808fa9bde11b6f", func := "pairing/pairinglaw1.IntegerTexts", spec := "integerTexts", apart := false }
def IntegerTextsSaid : Prop := integerTextsRow.holds Try.pinned (OpenSpec.ofChange integerTextsSpec)

/-- ITS FALSE NEIGHBOUR: 'it returns false'. Refute it at one input. -/
def integerTextsWrong : ChangeSpec := { name := "integerTexts", fn := fun _ => fun
  | [d1, d2] => { results := [.lit (.bool false)], args := [d1, d2] }
  | _ => none }
def IntegerTextsWrongFalsely : Prop := integerTextsRow.holds Try.pinned (OpenSpec.ofChange integerTextsWrong)

/-- 'pairinglaw2.RationalArithmetic': WHATEVER THE INPUT: true; the input reads as it did. -/
def rationalArithmeticSpec : ChangeSpec := { name := "rationalArithmetic", fn := fun _ => fun
  | [d1, d2] => { results := [.lit (.bool true)], args := [d1, d2] }
  | _ => none }
def rationalArithmeticRow : OpenClaim := { program := "ytplmfdgdbolcaaa", sum := "f748e51313639af16d40f5c0e4d714c5a08e73bece620860e6808fa9bde11b6f", func := "pairing/pairinglaw2.RationalArithmetic", spec := "rationalArithmetic", apart := false }
def RationalArithmeticSaid : Prop := rationalArithmeticRow.holds Try.pinned (OpenSpec.ofChange rationalArithmeticSpec)

/-- ITS FALSE NEIGHBOUR: 'it returns false'. Refute it at one input. -/
def rationalArithmeticWrong : ChangeSpec := { name := "rationalArithmetic", fn := fun _ => fun
  | [d1, d2] => { results := [.lit (.bool false)], args := [d1, d2] }
  | _ => none }
def RationalArithmeticWrongFalsely : Prop := rationalArithmeticRow.holds Try.pinned (OpenSpec.ofChange rationalArithmeticWrong)

/-- 'pairinglaw2.RationalMakes': WHATEVER THE INPUT: true; the input reads as it did. -/
def rationalMakesSpec : ChangeSpec := { name := "rationalMakes", fn := fun _ => fun
  | [d1, d2, d3, d4] => { results := [.lit (.bool true)], args := [d1, d2, d3, d4] }
  | _ => none }
def rationalMakesRow : OpenClaim := { program := "ytplmfdgdbolcaaa", sum := "f748e51313639af16d40f5c0e4d714c5a08e73bece620860e6808fa9bde11b6f", func := "pairing/pairinglaw2.RationalMakes", spec := "rationalMakes", apart := false }
def RationalMakesSaid : Prop := rationalMakesRow.holds Try.pinned (OpenSpec.ofChange rationalMakesSpec)

/-- ITS FALSE NEIGHBOUR: 'it returns false'. Refute it at one input. -/
def rationalMakesWrong : ChangeSpec := { name := "rationalMakes", fn := fun _ => fun
  | [d1, d2, d3, d4] => { results := [.lit (.bool false)], args := [d1, d2, d3, d4] }
  | _ => none }
def RationalMakesWrongFalsely : Prop := rationalMakesRow.holds Try.pinned (OpenSpec.ofChange rationalMakesWrong)

/-- 'pairinglaw2.RationalRounding': WHATEVER THE INPUT: true; the input reads as it did. -/
def rationalRoundingSpec : ChangeSpec := { name := "rationalRounding", fn := fun _ => fun
  | [d] => { results := [.lit (.bool true)], args := [d] }
  | _ => none }
def rationalRoundingRow : OpenClaim := { program := "ytplmfdgdbolcaaa", sum := "f748e51313639af16d40f5c0e4d714c5a08e73bece620860e6808fa9bde11b6f", func := "pairing/pairinglaw2.RationalRounding", spec := "rationalRounding", apart := false }
def RationalRoundingSaid : Prop := rationalRoundingRow.holds Try.pinned (OpenSpec.ofChange rationalRoundingSpec)

/-- ITS FALSE NEIGHBOUR: 'it returns false'. Refute it at one input. -/
def rationalRoundingWrong : ChangeSpec := { name := "rationalRounding", fn := fun _ => fun
  | [d] => { results := [.lit (.bool false)], args := [d] }
  | _ => none }
def RationalRoundingWrongFalsely : Prop := rationalRoundingRow.holds Try.pinned (OpenSpec.ofChange rationalRoundingWrong)

/-- 'pairinglaw2.RationalSums': WHATEVER THE INPUT: true; the input reads as it did. -/
def rationalSumsSpec : ChangeSpec := { name := "rationalSums", fn := fun _ => fun
  | [d] => { results := [.lit (.bool true)], args := [d] }
  | _ => none }
def rationalSumsRow : OpenClaim := { program := "ytplmfdgdbolcaaa", sum := "f748e51313639af16d40f5c0e4d714c5a08e73bece620860e6808fa9bde11b6f", func := "pairing/pairinglaw2.RationalSums", spec := "rationalSums", apart := false }
def RationalSumsSaid : Prop := rationalSumsRow.holds Try.pinned (OpenSpec.ofChange rationalSumsSpec)

/-- ITS FALSE NEIGHBOUR: 'it returns false'. Refute it at one input. -/
def rationalSumsWrong : ChangeSpec := { name := "rationalSums", fn := fun _ => fun
  | [d] => { results := [.lit (.bool false)], args := [d] }
  | _ => none }
def RationalSumsWrongFalsely : Prop := rationalSumsRow.holds Try.pinned (OpenSpec.ofChange rationalSumsWrong)

/-- 'pairinglaw2.RationalField': WHATEVER THE INPUT: true; the input reads as it did. -/
def rationalFieldSpec : ChangeSpec := { name := "rationalField", fn := fun _ => fun
  | [d1, d2, d3] => { results := [.lit (.bool true)], args := [d1, d2, d3] }
  | _ => none }
def rationalFieldRow : OpenClaim := { program := "ytplmfdgdbolcaaa", sum := "f748e51313639af16d40f5c0e4d714c5a08e73bece620860e6808fa9bde11b6f", func := "pairing/pairinglaw2.RationalField", spec := "rationalField", apart := false }
def RationalFieldSaid : Prop := rationalFieldRow.holds Try.pinned (OpenSpec.ofChange rationalFieldSpec)

/-- ITS FALSE NEIGHBOUR: 'it returns false'. Refute it at one input. -/
def rationalFieldWrong : ChangeSpec := { name := "rationalField", fn := fun _ => fun
  | [d1, d2, d3] => { results := [.lit (.bool false)], args := [d1, d2, d3] }
  | _ => none }
def RationalFieldWrongFalsely : Prop := rationalFieldRow.holds Try.pinned (OpenSpec.ofChange rationalFieldWrong)

/-- 'pairinglaw3.SparseValid': WHATEVER THE INPUT: true; the input reads as it did. -/
def sparseValidSpec : ChangeSpec := { name := "sparseValid", fn := fun _ => fun
  | [d1, d2] => { results := [.lit (.bool true)], args := [d1, d2] }
  | _ => none }
def sparseValidRow : OpenClaim := { program := "ytplmfdgdbolcaaa", sum := "f748e51313639af16d40f5c0e4d714c5a08e73bece620860e6808fa9bde11b6f", func := "pairing/pairinglaw3.SparseValid", spec := "sparseValid", apart := false }
def SparseValidSaid : Prop := sparseValidRow.holds Try.pinned (OpenSpec.ofChange sparseValidSpec)

/-- ITS FALSE NEIGHBOUR: 'it returns false'. Refute it at one input. -/
def sparseValidWrong : ChangeSpec := { name := "sparseValid", fn := fun _ => fun
  | [d1, d2] => { results := [.lit (.bool false)], args := [d1, d2] }
  | _ => none }
def SparseValidWrongFalsely : Prop := sparseValidRow.holds Try.pinned (OpenSpec.ofChange sparseValidWrong)

/-- 'pairinglaw3.SparseDense': WHATEVER THE INPUT: true; the input reads as it did. -/
def sparseDenseSpec : ChangeSpec := { name := "sparseDense", fn := fun _ => fun
  | [d1, d2, d3, d4] => { results := [.lit (.bool true)], args := [d1, d2, d3, d4] }
  | _ => none }
def sparseDenseRow : OpenClaim := { program := "ytplmfdgdbolcaaa", sum := "f748e51313639af16d40f5c0e4d714c5a08e73bece620860e6808fa9bde11b6f", func := "pairing/pairinglaw3.SparseDense", spec := "sparseDense", apart := false }
def SparseDenseSaid : Prop := sparseDenseRow.holds Try.pinned (OpenSpec.ofChange sparseDenseSpec)

/-- ITS FALSE NEIGHBOUR: 'it returns false'. Refute it at one input. -/
def sparseDenseWrong : ChangeSpec := { name := "sparseDense", fn := fun _ => fun
  | [d1, d2, d3, d4] => { results := [.lit (.bool false)], args := [d1, d2, d3, d4] }
  | _ => none }
def SparseDenseWrongFalsely : Prop := sparseDenseRow.holds Try.pinned (OpenSpec.ofChange sparseDenseWrong)

/-- 'pairinglaw3.SparseBack': WHATEVER THE INPUT: true; the input reads as it did. -/
def sparseBackSpec : ChangeSpec := { name := "sparseBack", fn := fun _ => fun
  | [d1, d2] => { results := [.lit (.bool true)], args := [d1, d2] }
  | _ => none }
def sparseBackRow : OpenClaim := { program := "ytplmfdgdbolcaaa", sum := "f748e51313639af16d40f5c0e4d714c5a08e73bece620860e6808fa9bde11b6f", func := "pairing/pairinglaw3.SparseBack", spec := "sparseBack", apart := false }
def SparseBackSaid : Prop := sparseBackRow.holds Try.pinned (OpenSpec.ofChange sparseBackSpec)

/-- ITS FALSE NEIGHBOUR: 'it returns false'. Refute it at one input. -/
def sparseBackWrong : ChangeSpec := { name := "sparseBack", fn := fun _ => fun
  | [d1, d2] => { results := [.lit (.bool false)], args := [d1, d2] }
  | _ => none }
def SparseBackWrongFalsely : Prop := sparseBackRow.holds Try.pinned (OpenSpec.ofChange sparseBackWrong)

/- THE SECOND FORM. 'bulk': how many values and letters a reading holds, each counted each time it is reached (what is shared counts as often as it is met; a slice's spare places count too). A statement '..UptoSaid' is the law's where the arguments, and the package variables that the reading takes, are together of bulk at most 1048576: NARROWER than '..Said'. Prove '..Said' where nothing that the law and all that it calls make is longer than what came in: it says more and counts as full. Else prove '..UptoSaid'. A law counts once. -/
mutual
def uptoBulk {H : Type} : DataW H → Nat
  | .lit (.string bytes) => bytes.length + 1
  | .lit _ => 1
  | .nil => 1
  | .ptr d => uptoBulk d + 1
  | .slice elems spare => uptoBulkAll elems + uptoBulkAll spare + 1
  | .agg parts => uptoBulkAll parts + 1
  | .iface _ d => uptoBulk d + 1
  | .map entries => uptoBulkEntries entries + 1
  | .held _ => 1
def uptoBulkAll {H : Type} : List (DataW H) → Nat
  | [] => 0
  | d :: r => uptoBulk d + uptoBulkAll r
def uptoBulkEntries {H : Type} : List (Lit × DataW H) → Nat
  | [] => 0
  | x :: r => uptoBulkEntry x + uptoBulkEntries r
def uptoBulkEntry {H : Type} : Lit × DataW H → Nat
  | (.string bytes, d) => bytes.length + uptoBulk d + 1
  | (_, d) => uptoBulk d + 1
 end
def uptoSmall : (H : Type) → List (DataW H) → Bool := fun _ ds => decide (uptoBulkAll ds ≤ 1048576)
def OpenSpec.upto (s : _root_.Go.ChangeSpec) : _root_.Go.OpenSpec := { _root_.Go.OpenSpec.ofChange s with cond := some uptoSmall }

/-- 'pairinglaw1.IntegerDivisors', WHERE WHAT IT READS IS OF BULK AT MOST 1048576: true; the input reads as it did. -/
def integerDivisorsUptoRow : OpenClaim := { program := "ytplmfdgdbolcaaa", sum := "f748e51313639af16d40f5c0e4d714c5a08e73bece620860e6808fa9bde11b6f", func := "pairing/pairinglaw1.IntegerDivisors", spec := "integerDivisors", apart := false, narrowed := true }
def IntegerDivisorsUptoSaid : Prop := integerDivisorsUptoRow.holds Try.pinned (OpenSpec.upto integerDivisorsSpec)

/-- 'pairinglaw1.IntegerPowers', WHERE WHAT IT READS IS OF BULK AT MOST 1048576: true; the input reads as it did. -/
def integerPowersUptoRow : OpenClaim := { program := "ytplmfdgdbolcaaa", sum := "f748e51313639af16d40f5c0e4d714c5a08e73bece620860e6808fa9bde11b6f", func := "pairing/pairinglaw1.IntegerPowers", spec := "integerPowers", apart := false, narrowed := true }
def IntegerPowersUptoSaid : Prop := integerPowersUptoRow.holds Try.pinned (OpenSpec.upto integerPowersSpec)

/-- 'pairinglaw1.IntegerTexts', WHERE WHAT IT READS IS OF BULK AT MOST 1048576: true; the input reads as it did. -/
def integerTextsUptoRow : OpenClaim := { program := "ytplmfdgdbolcaaa", sum := "f748e51313639af16d40f5c0e4d714c5a08e73bece620860e6808fa9bde11b6f", func := "pairing/pairinglaw1.IntegerTexts", spec := "integerTexts", apart := false, narrowed := true }
def IntegerTextsUptoSaid : Prop := integerTextsUptoRow.holds Try.pinned (OpenSpec.upto integerTextsSpec)

/-- 'pairinglaw2.RationalArithmetic', WHERE WHAT IT READS IS OF BULK AT MOST 1048576: true; the input reads as it did. -/
def rationalArithmeticUptoRow : OpenClaim := { program := "ytplmfdgdbolcaaa", sum := "f748e51313639af16d40f5c0e4d714c5a08e73bece620860e6808fa9bde11b6f", func := "pairing/pairinglaw2.RationalArithmetic", spec := "rationalArithmetic", apart := false, narrowed := true }
def RationalArithmeticUptoSaid : Prop := rationalArithmeticUptoRow.holds Try.pinned (OpenSpec.upto rationalArithmeticSpec)

/-- 'pairinglaw2.RationalMakes', WHERE WHAT IT READS IS OF BULK AT MOST 1048576: true; the input reads as it did. -/
def rationalMakesUptoRow : OpenClaim := { program := "ytplmfdgdbolcaaa", sum := "f748e51313639af16d40f5c0e4d714c5a08e73bece620860e6808fa9bde11b6f", func := "pairing/pairinglaw2.RationalMakes", spec := "rationalMakes", apart := false, narrowed := true }
def RationalMakesUptoSaid : Prop := rationalMakesUptoRow.holds Try.pinned (OpenSpec.upto rationalMakesSpec)

/-- 'pairinglaw2.RationalRounding', WHERE WHAT IT READS IS OF BULK AT MOST 1048576: true; the input reads as it did. -/
def rationalRoundingUptoRow : OpenClaim := { program := "ytplmfdgdbolcaaa", sum := "f748e51313639af16d40f5c0e4d714c5a08e73bece620860e6808fa9bde11b6f", func := "pairing/pairinglaw2.RationalRounding", spec := "rationalRounding", apart := false, narrowed := true }
def RationalRoundingUptoSaid : Prop := rationalRoundingUptoRow.holds Try.pinned (OpenSpec.upto rationalRoundingSpec)

/-- 'pairinglaw2.RationalSums', WHERE WHAT IT READS IS OF BULK AT MOST 1048576: true; the input reads as it did. -/
def rationalSumsUptoRow : OpenClaim := { program := "ytplmfdgdbolcaaa", sum := "f748e51313639af16d40f5c0e4d714c5a08e73bece620860e6808fa9bde11b6f", func := "pairing/pairinglaw2.RationalSums", spec := "rationalSums", apart := false, narrowed := true }
def RationalSumsUptoSaid : Prop := rationalSumsUptoRow.holds Try.pinned (OpenSpec.upto rationalSumsSpec)

/-- 'pairinglaw2.RationalField', WHERE WHAT IT READS IS OF BULK AT MOST 1048576: true; the input reads as it did. -/
def rationalFieldUptoRow : OpenClaim := { program := "ytplmfdgdbolcaaa", sum := "f748e51313639af16d40f5c0e4d714c5a08e73bece620860e6808fa9bde11b6f", func := "pairing/pairinglaw2.RationalField", spec := "rationalField", apart := false, narrowed := true }
def RationalFieldUptoSaid : Prop := rationalFieldUptoRow.holds Try.pinned (OpenSpec.upto rationalFieldSpec)

/-- 'pairinglaw3.SparseValid', WHERE WHAT IT READS IS OF BULK AT MOST 1048576: true; the input reads as it did. -/
def sparseValidUptoRow : OpenClaim := { program := "ytplmfdgdbolcaaa", sum := "f748e51313639af16d40f5c0e4d714c5a08e73bece620860e6808fa9bde11b6f", func := "pairing/pairinglaw3.SparseValid", spec := "sparseValid", apart := false, narrowed := true }
def SparseValidUptoSaid : Prop := sparseValidUptoRow.holds Try.pinned (OpenSpec.upto sparseValidSpec)

/-- 'pairinglaw3.SparseDense', WHERE WHAT IT READS IS OF BULK AT MOST 1048576: true; the input reads as it did. -/
def sparseDenseUptoRow : OpenClaim := { program := "ytplmfdgdbolcaaa", sum := "f748e51313639af16d40f5c0e4d714c5a08e73bece620860e6808fa9bde11b6f", func := "pairing/pairinglaw3.SparseDense", spec := "sparseDense", apart := false, narrowed := true }
def SparseDenseUptoSaid : Prop := sparseDenseUptoRow.holds Try.pinned (OpenSpec.upto sparseDenseSpec)

/-- 'pairinglaw3.SparseBack', WHERE WHAT IT READS IS OF BULK AT MOST 1048576: true; the input reads as it did. -/
def sparseBackUptoRow : OpenClaim := { program := "ytplmfdgdbolcaaa", sum := "f748e51313639af16d40f5c0e4d714c5a08e73bece620860e6808fa9bde11b6f", func := "pairing/pairinglaw3.SparseBack", spec := "sparseBack", apart := false, narrowed := true }
def SparseBackUptoSaid : Prop := sparseBackUptoRow.holds Try.pinned (OpenSpec.upto sparseBackSpec)

end Rows
end Go.Proofs.Ytplmfdgdbolcaaa
