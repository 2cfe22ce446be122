/-
  No cell of these rows narrows 'for every input' (looked for: loops, veiled, ifaces, maps, wideKeys, modest, calm, conditions, laid).
  DERIVED. THE GIVEN ROWS OF THIS SEAT. 7 by the template 'for every input the law returns true; each argument reads behind the call as it read before'; 0 by the template 'total and deterministic' (their statements: YtjbmaoplcbhgfaaTotals.lean).
  GIVEN WITH THE SEED: the statements are not yours to turn. If you find one false, say at which input.
  Laid BY PROGRAM, IN A SANDBOX (cutbox-rows.mjs): the forced cells as the released guide's own fill.sh prints them over the translation ff9ece1aed034fab… (all of the seat's roots in one cut). By AI agents, Wed Nov 11 2026. No macro, syntax, notation, axiom, sorry.
-/
import Derived.Test.YtjbmaoplcbhgfaaChecked
import GoSem.Claim
import GoSem.ClaimJoined
import GoSem.ClaimMapViews
import Derived.JoinedTies
import Derived.KernelRfl
namespace Go.Proofs.Ytjbmaoplcbhgfaa
/- THE CELL 'sum', in the pinned program and in every row, IS THE sha256 OF THE DUMP (.gsa) THAT YtjbmaoplcbhgfaaProg.lean LOADS. Nothing in Lean hashes anything: it is a label: what it is worth is what the hold of that sum in a sandbox is worth. -/
noncomputable def Try.pinned : Pinned := { name := "ytjbmaoplcbhgfaa", sum := "ff9ece1aed034fab8067bb647cda7dce1c7410ece5cbb3a3940c700fd5c0b9c0", checked := Try.checked }
namespace Rows
def none {H : Type} : Left H := { results := [], args := [] }

/-- 'pairinglaw1.IntegerTexts': WHATEVER THE INPUT: true; the input reads as it did. -/
def integerTextsSpec : ChangeSpec := { name := "integerTexts", fn := fun _ => fun
  | [d1, d2] => { results := [.lit (.bool true)], args := [d1, d2] }
  | _ => none }
def integerTextsRow : OpenClaim := { program := "ytjbmaoplcbhgfaa", sum := "ff9ece1aed034fab8067bb647cda7dce1c7410ece5cbb3a3940c700fd5c0b9c0", func := "pairing/pairinglaw1.IntegerTexts", spec := "integerTexts", apart := false }
def IntegerTextsSaid : Prop := integerTextsRow.holds Try.pinned (OpenSpec.ofChange integerTextsSpec)

/-- ITS FALSE NEIGHBOUR: 'it returns false'. Refute it at one input. -/
def integerTextsWrong : ChangeSpec := { name := "integerTexts", fn := fun _ => fun
  | [d1, d2] => { results := [.lit (.bool false)], args := [d1, d2] }
  | _ => none }
def IntegerTextsWrongFalsely : Prop := integerTextsRow.holds Try.pinned (OpenSpec.ofChange integerTextsWrong)

/-- 'pairinglaw2.RationalSimplest': WHATEVER THE INPUT: true; the input reads as it did. -/
def rationalSimplestSpec : ChangeSpec := { name := "rationalSimplest", fn := fun _ => fun
  | [d1, d2] => { results := [.lit (.bool true)], args := [d1, d2] }
  | _ => none }
def rationalSimplestRow : OpenClaim := { program := "ytjbmaoplcbhgfaa", sum := "ff9ece1aed034fab8067bb647cda7dce1c7410ece5cbb3a3940c700fd5c0b9c0", func := "pairing/pairinglaw2.RationalSimplest", spec := "rationalSimplest", recurses := true, apart := false }
def RationalSimplestSaid : Prop := rationalSimplestRow.holds Try.pinned (OpenSpec.ofChange rationalSimplestSpec)

/-- ITS FALSE NEIGHBOUR: 'it returns false'. Refute it at one input. -/
def rationalSimplestWrong : ChangeSpec := { name := "rationalSimplest", fn := fun _ => fun
  | [d1, d2] => { results := [.lit (.bool false)], args := [d1, d2] }
  | _ => none }
def RationalSimplestWrongFalsely : Prop := rationalSimplestRow.holds Try.pinned (OpenSpec.ofChange rationalSimplestWrong)

/-- 'pairinglaw2.RationalLeast': WHATEVER THE INPUT: true; the input reads as it did. -/
def rationalLeastSpec : ChangeSpec := { name := "rationalLeast", fn := fun _ => fun
  | [d1, d2] => { results := [.lit (.bool true)], args := [d1, d2] }
  | _ => none }
def rationalLeastRow : OpenClaim := { program := "ytjbmaoplcbhgfaa", sum := "ff9ece1aed034fab8067bb647cda7dce1c7410ece5cbb3a3940c700fd5c0b9c0", func := "pairing/pairinglaw2.RationalLeast", spec := "rationalLeast", apart := false }
def RationalLeastSaid : Prop := rationalLeastRow.holds Try.pinned (OpenSpec.ofChange rationalLeastSpec)

/-- ITS FALSE NEIGHBOUR: 'it returns false'. Refute it at one input. -/
def rationalLeastWrong : ChangeSpec := { name := "rationalLeast", fn := fun _ => fun
  | [d1, d2] => { results := [.lit (.bool false)], args := [d1, d2] }
  | _ => none }
def RationalLeastWrongFalsely : Prop := rationalLeastRow.holds Try.pinned (OpenSpec.ofChange rationalLeastWrong)

/-- 'pairinglaw3.SparseDense': WHATEVER THE INPUT: true; the input reads as it did. -/
def sparseDenseSpec : ChangeSpec := { name := "sparseDense", fn := fun _ => fun
  | [d1, d2, d3, d4] => { results := [.lit (.bool true)], args := [d1, d2, d3, d4] }
  | _ => none }
def sparseDenseRow : OpenClaim := { program := "ytjbmaoplcbhgfaa", sum := "ff9ece1aed034fab8067bb647cda7dce1c7410ece5cbb3a3940c700fd5c0b9c0", func := "pairing/pairinglaw3.SparseDense", spec := "sparseDense", apart := false }
def SparseDenseSaid : Prop := sparseDenseRow.holds Try.pinned (OpenSpec.ofChange sparseDenseSpec)

/-- ITS FALSE NEIGHBOUR: 'it returns false'. Refute it at one input. -/
def sparseDenseWrong : ChangeSpec := { name := "sparseDense", fn := fun _ => fun
  | [d1, d2, d3, d4] => { results := [.lit (.bool false)], args := [d1, d2, d3, d4] }
  | _ => none }
def SparseDenseWrongFalsely : Prop := sparseDenseRow.holds Try.pinned (OpenSpec.ofChange sparseDenseWrong)

/-- 'pairinglaw3.SparseBack': WHATEVER THE INPUT: true; the input reads as it did. -/
def sparseBackSpec : ChangeSpec := { name := "sparseBack", fn := fun _ => fun
  | [d1, d2] => { results := [.lit (.bool true)], args := [d1, d2] }
  | _ => none }
def sparseBackRow : OpenClaim := { program := "ytjbmaoplcbhgfaa", sum := "ff9ece1aed034fab8067bb647cda7dce1c7410ece5cbb3a3940c700fd5c0b9c0", func := "pairing/pairinglaw3.SparseBack", spec := "sparseBack", apart := false }
def SparseBackSaid : Prop := sparseBackRow.holds Try.pinned (OpenSpec.ofChange sparseBackSpec)

/-- ITS FALSE NEIGHBOUR: 'it returns false'. Refute it at one input. -/
def sparseBackWrong : ChangeSpec := { name := "sparseBack", fn := fun _ => fun
  | [d1, d2] => { results := [.lit (.bool false)], args := [d1, d2] }
  | _ => none }
def SparseBackWrongFalsely : Prop := sparseBackRow.holds Try.pinned (OpenSpec.ofChange sparseBackWrong)

/-- 'pairinglaw3.SparseLinear': WHATEVER THE INPUT: true; the input reads as it did. -/
def sparseLinearSpec : ChangeSpec := { name := "sparseLinear", fn := fun _ => fun
  | [d1, d2, d3, d4, d5] => { results := [.lit (.bool true)], args := [d1, d2, d3, d4, d5] }
  | _ => none }
def sparseLinearRow : OpenClaim := { program := "ytjbmaoplcbhgfaa", sum := "ff9ece1aed034fab8067bb647cda7dce1c7410ece5cbb3a3940c700fd5c0b9c0", func := "pairing/pairinglaw3.SparseLinear", spec := "sparseLinear", apart := false }
def SparseLinearSaid : Prop := sparseLinearRow.holds Try.pinned (OpenSpec.ofChange sparseLinearSpec)

/-- ITS FALSE NEIGHBOUR: 'it returns false'. Refute it at one input. -/
def sparseLinearWrong : ChangeSpec := { name := "sparseLinear", fn := fun _ => fun
  | [d1, d2, d3, d4, d5] => { results := [.lit (.bool false)], args := [d1, d2, d3, d4, d5] }
  | _ => none }
def SparseLinearWrongFalsely : Prop := sparseLinearRow.holds Try.pinned (OpenSpec.ofChange sparseLinearWrong)

/-- 'pairinglaw3.SparseAdjoint': WHATEVER THE INPUT: true; the input reads as it did. -/
def sparseAdjointSpec : ChangeSpec := { name := "sparseAdjoint", fn := fun _ => fun
  | [d1, d2, d3, d4] => { results := [.lit (.bool true)], args := [d1, d2, d3, d4] }
  | _ => none }
def sparseAdjointRow : OpenClaim := { program := "ytjbmaoplcbhgfaa", sum := "ff9ece1aed034fab8067bb647cda7dce1c7410ece5cbb3a3940c700fd5c0b9c0", func := "pairing/pairinglaw3.SparseAdjoint", spec := "sparseAdjoint", apart := false }
def SparseAdjointSaid : Prop := sparseAdjointRow.holds Try.pinned (OpenSpec.ofChange sparseAdjointSpec)

/-- ITS FALSE NEIGHBOUR: 'it returns false'. Refute it at one input. -/
def sparseAdjointWrong : ChangeSpec := { name := "sparseAdjoint", fn := fun _ => fun
  | [d1, d2, d3, d4] => { results := [.lit (.bool false)], args := [d1, d2, d3, d4] }
  | _ => none }
def SparseAdjointWrongFalsely : Prop := sparseAdjointRow.holds Try.pinned (OpenSpec.ofChange sparseAdjointWrong)

/- THE SECOND FORM. 'bulk': how many values and letters a reading holds, each counted each time it is reached (what is shared counts as often as it is met; a slice's spare places count too). A statement '..UptoSaid' is the law's where the arguments, and the package variables that the reading takes, are together of bulk at most 1048576: NARROWER than '..Said'. Prove '..Said' where nothing that the law and all that it calls make is longer than what came in: it says more and counts as full. Else prove '..UptoSaid'. A law counts once. -/
mutual
def uptoBulk {H : Type} : DataW H → Nat
  | .lit (.string bytes) => bytes.length + 1
  | .lit _ => 1
  | .nil => 1
  | .ptr d => uptoBulk d + 1
  | .slice elems spare => uptoBulkAll elems + uptoBulkAll spare + 1
  | .agg parts => uptoBulkAll parts + 1
  | .iface _ d => uptoBulk d + 1
  | .map entries => uptoBulkEntries entries + 1
  | .held _ => 1
def uptoBulkAll {H : Type} : List (DataW H) → Nat
  | [] => 0
  | d :: r => uptoBulk d + uptoBulkAll r
def uptoBulkEntries {H : Type} : List (Lit × DataW H) → Nat
  | [] => 0
  | x :: r => uptoBulkEntry x + uptoBulkEntries r
def uptoBulkEntry {H : Type} : Lit × DataW H → Nat
  | (.string bytes, d) => bytes.length + uptoBulk d + 1
  | (_, d) => uptoBulk d + 1
 end
def uptoSmall : (H : Type) → List (DataW H) → Bool := fun _ ds => decide (uptoBulkAll ds ≤ 1048576)
def OpenSpec.upto (s : _root_.Go.ChangeSpec) : _root_.Go.OpenSpec := { _root_.Go.OpenSpec.ofChange s with cond := some uptoSmall }

/-- 'pairinglaw1.IntegerTexts', WHERE WHAT IT READS IS OF BULK AT MOST 1048576: true; the input reads as it did. -/
def integerTextsUptoRow : OpenClaim := { program := "ytjbmaoplcbhgfaa", sum := "ff9ece1aed034fab8067bb647cda7dce1c7410ece5cbb3a3940c700fd5c0b9c0", func := "pairing/pairinglaw1.IntegerTexts", spec := "integerTexts", apart := false, narrowed := true }
def IntegerTextsUptoSaid : Prop := integerTextsUptoRow.holds Try.pinned (OpenSpec.upto integerTextsSpec)

/-- 'pairinglaw2.RationalSimplest', WHERE WHAT IT READS IS OF BULK AT MOST 1048576: true; the input reads as it did. -/
def rationalSimplestUptoRow : OpenClaim := { program := "ytjbmaoplcbhgfaa", sum := "ff9ece1aed034fab8067bb647cda7dce1c7410ece5cbb3a3940c700fd5c0b9c0", func := "pairing/pairinglaw2.RationalSimplest", spec := "rationalSimplest", recurses := true, apart := false, narrowed := true }
def RationalSimplestUptoSaid : Prop := rationalSimplestUptoRow.holds Try.pinned (OpenSpec.upto rationalSimplestSpec)

/-- 'pairinglaw2.RationalLeast', WHERE WHAT IT READS IS OF BULK AT MOST 1048576: true; the input reads as it did. -/
def rationalLeastUptoRow : OpenClaim := { program := "ytjbmaoplcbhgfaa", sum := "ff9ece1aed034fab8067bb647cda7dce1c7410ece5cbb3a3940c700fd5c0b9c0", func := "pairing/pairinglaw2.RationalLeast", spec := "rationalLeast", apart := false, narrowed := true }
def RationalLeastUptoSaid : Prop := rationalLeastUptoRow.holds Try.pinned (OpenSpec.upto rationalLeastSpec)

/-- 'pairinglaw3.SparseDense', WHERE WHAT IT READS IS OF BULK AT MOST 1048576: true; the input reads as it did. -/
def sparseDenseUptoRow : OpenClaim := { program := "ytjbmaoplcbhgfaa", sum := "ff9ece1aed034fab8067bb647cda7dce1c7410ece5cbb3a3940c700fd5c0b9c0", func := "pairing/pairinglaw3.SparseDense", spec := "sparseDense", apart := false, narrowed := true }
def SparseDenseUptoSaid : Prop := sparseDenseUptoRow.holds Try.pinned (OpenSpec.upto sparseDenseSpec)

/-- 'pairinglaw3.SparseBack', WHERE WHAT IT READS IS OF BULK AT MOST 1048576: true; the input reads as it did. -/
def sparseBackUptoRow : OpenClaim := { program := "ytjbmaoplcbhgfaa", sum := "ff9ece1aed034fab8067bb647cda7dce1c7410ece5cbb3a3940c700fd5c0b9c0", func := "pairing/pairinglaw3.SparseBack", spec := "sparseBack", apart := false, narrowed := true }
def SparseBackUptoSaid : Prop := sparseBackUptoRow.holds Try.pinned (OpenSpec.upto sparseBackSpec)

/-- 'pairinglaw3.SparseLinear', WHERE WHAT IT READS IS OF BULK AT MOST 1048576: true; the input reads as it did. -/
def sparseLinearUptoRow : OpenClaim := { program := "ytjbmaoplcbhgfaa", sum := "ff9ece1aed034fab8067bb647cda7dce1c7410ece5cbb3a3940c700fd5c0b9c0", func := "pairing/pairinglaw3.SparseLinear", spec := "sparseLinear", apart := false, narrowed := true }
def SparseLinearUptoSaid : Prop := sparseLinearUptoRow.holds Try.pinned (OpenSpec.upto sparseLinearSpec)

/-- 'pairinglaw3.SparseAdjoint', WHERE WHAT IT READS IS OF BULK AT MOST 1048576: true; the input reads as it did. -/
def sparseAdjointUptoRow : OpenClaim := { program := "ytjbmaoplcbhgfaa", sum := "ff9ece1aed034fab8067bb647cda7dce1c7410ece5cbb3a3940c700fd5c0b9c0", func := "pairing/pairinglaw3.SparseAdjoint", spec := "sparseAdjoint", apart := false, narrowed := true }
def SparseAdjointUptoSaid : Prop := sparseAdjointUptoRow.holds Try.pinned (OpenSpec.upto sparseAdjointSpec)

end Rows
end Go.Proofs.Ytjbmaoplcbhgfaa
