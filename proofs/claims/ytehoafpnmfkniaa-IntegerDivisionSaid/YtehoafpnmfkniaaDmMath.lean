/-
  Division rounded down: the numbers.
-/
import Derived.Test.YtehoafpnmfkniaaInts
set_option linter.unusedVariables false
set_option linter.unusedSimpArgs false
namespace Go.Proofs.Ytehoafpnmfkniaa

/-- Rounded down, what is left, and the error. -/
def dmQ (x y : Int) : Int := if y = 0 then 0 else if 0 < y then x / y else (-x) / (-y)
def dmR (x y : Int) : Int := if y = 0 then 0 else if 0 < y then x % y else -((-x) % (-y))
def dmE (y : Int) : Int := if y = 0 then 11 else 0

theorem zOf_abs (z : Int) : z = zOf (decide (z < 0)) z.natAbs := by unfold zOf; by_cases h : z < 0 <;> simp [h] <;> omega
theorem dm_zero (x : Int) {y : Int} (h : y = 0) : dmQ x y = 0 ∧ dmR x y = 0 ∧ dmE y = 11 := by simp [dmQ, dmR, dmE, h]
theorem dm_err {y : Int} (h : y ≠ 0) : dmE y = 0 := by simp [dmE, h]

theorem dm_unique {x y q r : Int} (h : x = q * y + r) (hr : (0 ≤ r ∧ r < y) ∨ (y < r ∧ r ≤ 0)) : dmQ x y = q ∧ dmR x y = r := by
  unfold dmQ dmR
  rcases hr with hr | hr
  · have hy : 0 < y := by omega
    have hy0 : ¬ y = 0 := by omega
    simp only [if_neg hy0, if_pos hy]
    exact (Int.ediv_emod_unique hy).2 ⟨by rw [h, Int.mul_comm]; omega, hr.1, hr.2⟩
  · have hy : 0 < -y := by omega
    have hy0 : ¬ y = 0 := by omega
    have hy1 : ¬ 0 < y := by omega
    simp only [if_neg hy0, if_neg hy1]
    have := (Int.ediv_emod_unique (a := -x) (b := -y) (q := q) (r := -r) hy).2 ⟨by rw [h, Int.neg_mul, Int.mul_comm]; omega, by omega, by omega⟩
    exact ⟨this.1, by rw [this.2]; omega⟩

section
variable (x y : Int)
theorem dm_nat (hy : y ≠ 0) : ((x.natAbs : Nat) : Int) = ((x.natAbs / y.natAbs : Nat) : Int) * (y.natAbs : Nat) + ((x.natAbs % y.natAbs : Nat) : Int) ∧ x.natAbs % y.natAbs < y.natAbs := by
  refine ⟨?_, Nat.mod_lt _ (by omega)⟩
  have := Nat.div_add_mod x.natAbs y.natAbs
  rw [Nat.mul_comm] at this
  exact_mod_cast this.symm
theorem dm_same (hy : y ≠ 0) (hs : decide (x < 0) = decide (y < 0)) : dmQ x y = ((x.natAbs / y.natAbs : Nat) : Int) ∧ dmR x y = zOf (decide (y < 0)) (x.natAbs % y.natAbs) := by
  obtain ⟨h1, h2⟩ := dm_nat x y hy
  generalize x.natAbs / y.natAbs = Q at *
  generalize x.natAbs % y.natAbs = R at *
  have hs' : x < 0 ↔ y < 0 := by simpa using hs
  by_cases h : y < 0
  · have hx := hs'.2 h
    have e1 : ((x.natAbs : Nat) : Int) = -x := by omega
    have e2 : ((y.natAbs : Nat) : Int) = -y := by omega
    rw [e1, e2, Int.mul_neg] at h1
    simp only [h, decide_true, zOf, if_true]
    exact dm_unique (by omega) (Or.inr ⟨by omega, by omega⟩)
  · have hx : ¬ x < 0 := fun hx => h (hs'.1 hx)
    have e1 : ((x.natAbs : Nat) : Int) = x := by omega
    have e2 : ((y.natAbs : Nat) : Int) = y := by omega
    rw [e1, e2] at h1
    simp only [h, decide_false, zOf, Bool.false_eq_true, if_false]
    exact dm_unique (by omega) (Or.inl ⟨by omega, by omega⟩)
theorem dm_diff0 (hy : y ≠ 0) (hs : decide (x < 0) ≠ decide (y < 0)) (hr : x.natAbs % y.natAbs = 0) : dmQ x y = -((x.natAbs / y.natAbs : Nat) : Int) ∧ dmR x y = 0 := by
  obtain ⟨h1, h2⟩ := dm_nat x y hy
  rw [hr] at h1
  generalize x.natAbs / y.natAbs = Q at *
  have hs' : ¬ (x < 0 ↔ y < 0) := by simpa using hs
  by_cases h : y < 0
  · have hx : ¬ x < 0 := fun hx => hs' ⟨fun _ => h, fun _ => hx⟩
    have e1 : ((x.natAbs : Nat) : Int) = x := by omega
    have e2 : ((y.natAbs : Nat) : Int) = -y := by omega
    rw [e1, e2, Int.mul_neg] at h1
    exact dm_unique (by rw [Int.neg_mul]; omega) (Or.inr ⟨by omega, by omega⟩)
  · have hx : x < 0 := by
      rcases Int.lt_or_le x 0 with h3 | h3
      · exact h3
      · exact absurd ⟨fun h4 => absurd h4 (by omega), fun h4 => absurd h4 h⟩ hs'
    have e1 : ((x.natAbs : Nat) : Int) = -x := by omega
    have e2 : ((y.natAbs : Nat) : Int) = y := by omega
    rw [e1, e2] at h1
    exact dm_unique (by rw [Int.neg_mul]; omega) (Or.inl ⟨by omega, by omega⟩)
theorem dm_diff1 (hy : y ≠ 0) (hs : decide (x < 0) ≠ decide (y < 0)) (hr : x.natAbs % y.natAbs ≠ 0) : dmQ x y = -((x.natAbs / y.natAbs + 1 : Nat) : Int) ∧ dmR x y = zOf (decide (y < 0)) (y.natAbs - x.natAbs % y.natAbs) := by
  obtain ⟨h1, h2⟩ := dm_nat x y hy
  generalize x.natAbs / y.natAbs = Q at *
  generalize x.natAbs % y.natAbs = R at *
  have hs' : ¬ (x < 0 ↔ y < 0) := by simpa using hs
  have e0 : ((Q + 1 : Nat) : Int) = (Q : Int) + 1 := by omega
  rw [e0]
  by_cases h : y < 0
  · have hx : ¬ x < 0 := fun hx => hs' ⟨fun _ => h, fun _ => hx⟩
    have e1 : ((x.natAbs : Nat) : Int) = x := by omega
    have e2 : ((y.natAbs : Nat) : Int) = -y := by omega
    rw [e1, e2, Int.mul_neg] at h1
    simp only [h, decide_true, zOf, if_true]
    exact dm_unique (by rw [Int.neg_mul, Int.add_mul]; omega) (Or.inr ⟨by omega, by omega⟩)
  · have hx : x < 0 := by
      rcases Int.lt_or_le x 0 with h3 | h3
      · exact h3
      · exact absurd ⟨fun h4 => absurd h4 (by omega), fun h4 => absurd h4 h⟩ hs'
    have e1 : ((x.natAbs : Nat) : Int) = -x := by omega
    have e2 : ((y.natAbs : Nat) : Int) = y := by omega
    rw [e1, e2] at h1
    simp only [h, decide_false, zOf, Bool.false_eq_true, if_false]
    exact dm_unique (by rw [Int.neg_mul, Int.add_mul]; omega) (Or.inl ⟨by omega, by omega⟩)
end
end Go.Proofs.Ytehoafpnmfkniaa
