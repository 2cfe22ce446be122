/-
  Sums of canonical fractions and of words.
-/
import Derived.Test.YtkhficmehjglmaaFrcA
import Derived.Test.YtkhficmehjglmaaFrM
set_option linter.unusedVariables false
set_option linter.unusedSimpArgs false
namespace Go.Proofs.Ytkhficmehjglmaa
section
open Go.RowKit

theorem gcd_le_right {x y : Int} (hy : y ≠ 0) : Int.gcd x y ≤ y.natAbs := Nat.le_of_dvd (by omega) (Int.gcd_dvd_natAbs_right ..)
theorem ediv_mul_of {x g q : Int} (hg : 0 < g) (h : g ∣ x) (hq : dmQ x g = q) : q * g = x := by
  rw [← hq, dmQ_pos hg]; exact Int.ediv_mul_cancel h
theorem abs_of_mul {x g q : Int} (hg : 0 < g) (h : q * g = x) : q.natAbs ≤ x.natAbs := by
  rw [← h, Int.natAbs_mul]; exact Nat.le_mul_of_pos_right _ (by omega)

end
section
open Go.RowKit

def okB (z d M : Int) : Bool := decide ((-M ≤ z ∧ z ≤ M) ∧ (-M ≤ d ∧ d ≤ M))
def wX (z d M : Int) : Int := if okB z d M then un z d else 0
def wY (z d M : Int) : Int := if okB z d M then ud z d else 0
/-- What addWords returns. -/
def RetAW (w : World) (x y : Int) (b : Bool) (e : Ending) (w' : World) : Prop :=
  ∃ A n c A' n' c', e = .returned (.tuple #[.agg #[.bool (decide (x < 0)), .slice A n c, .bool (decide (y < 0)), .slice A' n' c'], .bool b]) ∧
    CanAt w' (decide (x < 0)) A n c x ∧ CanAt w' (decide (y < 0)) A' n' c' y ∧ Below w.heap.size w w'
theorem RetAW.of_st {w0 w : World} {l : List (Nat × TypeId × List Value)} {k : List (Bool × Option Addr × Nat × Nat × Int × Bool)} {A A' : Option Addr} {n c n' c' : Nat} {x y : Int} {b : Bool}
    (h : St w0 w l ((decide (x < 0), A, n, c, x, true) :: (decide (y < 0), A', n', c', y, true) :: k)) : RetAW w0 x y b (.returned (.tuple #[.agg #[.bool (decide (x < 0)), .slice A n c, .bool (decide (y < 0)), .slice A' n' c'], .bool b])) w :=
  ⟨A, n, c, A', n', c', rfl, h.ints.1.c, h.ints.2.1.c, h.below⟩

theorem mul_in {a b M : Int} (h1 : -M ≤ a) (h2 : a ≤ M) (h3 : -M ≤ b) (h4 : b ≤ M) (h0 : 0 ≤ M) : -(M * M) ≤ a * b ∧ a * b ≤ M * M := by
  have h5 : a.natAbs ≤ M.natAbs := by omega
  have h6 : b.natAbs ≤ M.natAbs := by omega
  have h7 := Nat.mul_le_mul h5 h6
  rw [← Int.natAbs_mul, ← Int.natAbs_mul] at h7
  have h8 : 0 ≤ M * M := Int.mul_nonneg h0 h0
  omega
theorem rn_of_pos {z d : Int} (h : 0 < d) : rn z d = z / (Int.gcd z d : Nat) ∧ rd z d = d / (Int.gcd z d : Nat) := by
  unfold rn rd; rw [un_pos h, ud_pos_ h]; exact ⟨rfl, rfl⟩
theorem okB_in {z d M : Int} (h : okB z d M = true) : (-M ≤ un z d ∧ un z d ≤ M) ∧ 0 < ud z d ∧ (d = 0 ∨ ud z d ≤ M) := by
  have h' : (-M ≤ z ∧ z ≤ M) ∧ (-M ≤ d ∧ d ≤ M) := by unfold okB at h; simpa using h
  have h1 := un_abs z d
  refine ⟨by omega, ud_pos z d, ?_⟩
  by_cases hd : d = 0
  · exact Or.inl hd
  · right; unfold ud; rw [if_neg hd]; split <;> omega

end
end Go.Proofs.Ytkhficmehjglmaa

