/-
  Quotient and remainder, handed from call to call; what Euclid's division asks of them.
-/
import Derived.Test.YtehoafpnmfkniaaLongOk
import Derived.Test.YtehoafpnmfkniaaAt
import Derived.Test.YtehoafpnmfkniaaCompare
set_option linter.unusedVariables false
set_option linter.unusedSimpArgs false
namespace Go.Proofs.Ytehoafpnmfkniaa
open Go.RowKit

section
variable {w w' : World} {neg neg' : Bool} {A A' : Option Addr} {n c n' c' : Nat} {x y : Int}
theorem divMod_at (h : IntAt w neg A n c x) (h' : IntAt w neg' A' n' c' y) : Calls Try.prog 18 #[.agg #[.bool neg, .slice A n c], .agg #[.bool neg', .slice A' n' c']] w (RetM w (dmQ x y) (dmR x y) (dmE y)) := by
  obtain ⟨ds, h1, h2, h3, rfl, h5⟩ := h
  obtain ⟨ds', h1', h2', h3', rfl, h5'⟩ := h'
  exact divMod_any neg neg' A A' n n' c c' ds ds' w h1 h1' h2 h3 h2' h3' h5 h5' (longOk _)
end

theorem euclid_sum (x : Int) {y : Int} (hy : y ≠ 0) : dmQ x y * y + dmR x y = x := by
  unfold dmQ dmR
  by_cases hp : 0 < y
  · simp only [hy, hp, if_true, if_false]
    rw [Int.mul_comm]
    exact Int.mul_ediv_add_emod x y
  · simp only [hy, hp, if_false]
    have h := Int.mul_ediv_add_emod (-x) (-y)
    have e : -x / -y * y = -(-y * (-x / -y)) := by rw [Int.neg_mul, Int.neg_neg, Int.mul_comm]
    rw [e]
    omega

/-- The remainder is 0 or has the divisor's sign, and is smaller. -/
theorem euclid_rest (x : Int) {y : Int} (hy : y ≠ 0) : (dmR x y = 0 ∨ sgn (dmR x y) = sgn y) ∧ (dmR x y).natAbs < y.natAbs := by
  unfold dmR
  by_cases hp : 0 < y
  · simp only [hy, hp, if_true, if_false]
    have h1 := Int.emod_nonneg x hy
    have h2 := Int.emod_lt_of_pos x hp
    generalize x % y = r at h1 h2 ⊢
    refine ⟨?_, by omega⟩
    by_cases h0 : r = 0
    · exact Or.inl h0
    · exact Or.inr (by rw [sgn, sgn, cmpI_gt (show (0 : Int) < r by omega), cmpI_gt hp])
  · simp only [hy, hp, if_false]
    have hn : 0 < -y := by omega
    have h1 := Int.emod_nonneg (-x) (show -y ≠ 0 by omega)
    have h2 := Int.emod_lt_of_pos (-x) hn
    generalize -x % -y = r at h1 h2 ⊢
    refine ⟨?_, by omega⟩
    by_cases h0 : r = 0
    · exact Or.inl (by omega)
    · exact Or.inr (by rw [sgn, sgn, cmpI_lt (show -r < (0 : Int) by omega), cmpI_lt (show y < (0 : Int) by omega)])

theorem dmQ_sz {x y : Int} {k : Nat} (h : Sz x k) : Sz (dmQ x y) (k + 1) := by
  by_cases hy : y = 0
  · unfold Sz; rw [(dm_zero x hy).1]; exact Nat.pow_pos BB_pos
  · have h1 := euclid_sum x hy
    have h2 := (euclid_rest x hy).2
    unfold Sz at *
    have e : BB ^ (k + 1) = BB ^ k * 4294967296 := by rw [Nat.pow_succ, BB_eq]
    rw [e]
    have h3 : (dmQ x y).natAbs * y.natAbs ≤ x.natAbs + (dmR x y).natAbs := by
      rw [← Int.natAbs_mul, show dmQ x y * y = x - dmR x y by omega]
      omega
    have h4 : (dmQ x y).natAbs * y.natAbs < (x.natAbs + 1) * y.natAbs := by
      have : x.natAbs * 1 ≤ x.natAbs * y.natAbs := Nat.mul_le_mul_left _ (by omega)
      rw [Nat.add_mul, Nat.one_mul]
      omega
    have := Nat.lt_of_mul_lt_mul_right h4
    omega
theorem dmR_sz {x y : Int} {k : Nat} (h : Sz y k) (hy : y ≠ 0) : Sz (dmR x y) k := by
  have h2 := (euclid_rest x hy).2
  unfold Sz at *
  omega
end Go.Proofs.Ytehoafpnmfkniaa
