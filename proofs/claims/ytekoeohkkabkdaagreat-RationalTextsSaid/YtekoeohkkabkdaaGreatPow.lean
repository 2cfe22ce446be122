/-
  Powers: the number of bits of a word, and the program's Pow.
-/
import Derived.Test.YtekoeohkkabkdaaGreatGcd
set_option linter.unusedVariables false
set_option linter.unusedSimpArgs false
namespace Go.Proofs.YtekoeohkkabkdaaGreat
open Go.RowKit
/-- A power and its error. -/
def powV (a N : Int) : Int := if 0 ≤ N ∧ N ≤ 64 then a ^ N.toNat else 0
def powE (N : Int) : Int := if 0 ≤ N ∧ N ≤ 64 then 0 else 5
theorem Sz.pow {a : Int} {k l : Nat} (h : Sz a 10) (hk : 10 * k < l) : Sz (a ^ k) l := by
  have h1 : (a ^ k).natAbs = a.natAbs ^ k := Int.natAbs_pow a k
  have h2 : a.natAbs ^ k ≤ (BB ^ 10) ^ k := Nat.pow_le_pow_left (Nat.le_of_lt h) k
  unfold Sz
  rw [h1]
  refine Nat.lt_of_le_of_lt h2 ?_
  rw [← Nat.pow_mul]
  exact Nat.pow_lt_pow_right (by rw [BB_eq]; decide) hk
theorem pw_fin : ∀ n : Fin 65, bits BinOp.and IntKind.i64 (n.val : Int) 1 = ((n.val % 2 : Nat) : Int) := by decide +kernel
theorem pw_bit (M j : Nat) (hM : M ≤ 64) : bits BinOp.and IntKind.i64 ((M : Int) / 2 ^ j) 1 = ((M / 2 ^ j % 2 : Nat) : Int) := by
  have h := Nat.div_le_self M (2 ^ j)
  have e : (M : Int) / 2 ^ j = ((M / 2 ^ j : Nat) : Int) := by rw [Int.natCast_ediv, Int.natCast_pow]; rfl
  rw [e]
  exact pw_fin ⟨M / 2 ^ j, by omega⟩
/-- The head of the loop of Pow, k bits being left. -/
def PwI (w wr : World) (h6 : Nat) (s : Bool) (A : Option Addr) (n c : Nat) (a : Int) (M k : Nat) : Prop :=
  ∃ (P : Int) (B : Option Addr) (m e : Nat), P = a ^ (M / 2 ^ k) ∧ St w wr [vi h6 (decide (P < 0)) B m e, vi (w.heap.size + 1) false none 0 0, vi w.heap.size s A n c] [(decide (P < 0), B, m, e, P, true), (s, A, n, c, a, false)]

/-- An integer and an error are handed back. -/
def RetO (w : World) (z err : Int) (e : Ending) (w' : World) : Prop :=
  ∃ A n c, e = .returned (.tuple #[.agg #[.bool (decide (z < 0)), .slice A n c], .int .i64 err]) ∧ CanAt w' (decide (z < 0)) A n c z ∧ Below w.heap.size w w'

end Go.Proofs.YtekoeohkkabkdaaGreat

