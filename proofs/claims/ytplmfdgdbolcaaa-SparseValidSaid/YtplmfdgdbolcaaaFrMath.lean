/-
  Fractions as pairs of integers: the canonical form (mathematics).
-/
import Derived.Test.YtplmfdgdbolcaaaCmpC
set_option linter.unusedVariables false
set_option linter.unusedSimpArgs false
namespace Go.Proofs.Ytplmfdgdbolcaaa

/-- A pair with a positive second member, of the same value; 0 / 1 if the second member is 0. -/
def un (z d : Int) : Int := if d = 0 then 0 else if d < 0 then -z else z
def ud (z d : Int) : Int := if d = 0 then 1 else if d < 0 then -d else d
/-- The canonical form. -/
def rn (z d : Int) : Int := un z d / (Int.gcd (un z d) (ud z d) : Nat)
def rd (z d : Int) : Int := ud z d / (Int.gcd (un z d) (ud z d) : Nat)

theorem ud_pos (z d : Int) : 0 < ud z d := by unfold ud; split <;> (try split) <;> omega
theorem un_zero (z : Int) : un z 0 = 0 := by simp [un]
theorem ud_zero (z : Int) : ud z 0 = 1 := by simp [ud]
theorem un_neg {z d : Int} (h : d < 0) : un z d = -z := by unfold un; rw [if_neg (by omega), if_pos h]
theorem ud_neg {z d : Int} (h : d < 0) : ud z d = -d := by unfold ud; rw [if_neg (by omega), if_pos h]
theorem un_pos {z d : Int} (h : 0 < d) : un z d = z := by unfold un; rw [if_neg (by omega), if_neg (by omega)]
theorem ud_pos_ {z d : Int} (h : 0 < d) : ud z d = d := by unfold ud; rw [if_neg (by omega), if_neg (by omega)]
theorem un_abs (z d : Int) : (un z d).natAbs ≤ z.natAbs := by unfold un; split <;> (try split) <;> omega
theorem ud_abs (z d : Int) : (ud z d).natAbs ≤ d.natAbs + 1 := by unfold ud; split <;> (try split) <;> omega
theorem ug_pos (z d : Int) : 0 < Int.gcd (un z d) (ud z d) := Int.gcd_pos_iff.2 (Or.inr (by have := ud_pos z d; omega))
theorem rn_mul (z d : Int) : rn z d * (Int.gcd (un z d) (ud z d) : Nat) = un z d := Int.ediv_mul_cancel (Int.gcd_dvd_left ..)
theorem rd_mul (z d : Int) : rd z d * (Int.gcd (un z d) (ud z d) : Nat) = ud z d := Int.ediv_mul_cancel (Int.gcd_dvd_right ..)
theorem rd_pos (z d : Int) : 0 < rd z d := by
  have h1 := rd_mul z d
  have h2 := ud_pos z d
  have h3 := ug_pos z d
  rcases Int.lt_trichotomy (rd z d) 0 with h | h | h
  · have := Int.mul_neg_of_neg_of_pos h (show (0 : Int) < (Int.gcd (un z d) (ud z d) : Nat) by omega); omega
  · rw [h, Int.zero_mul] at h1; omega
  · exact h
theorem rn_gcd (z d : Int) : Int.gcd (rn z d) (rd z d) = 1 := Int.gcd_ediv_gcd_ediv_gcd (ug_pos z d)
theorem nabs_le_of_mul {a b : Int} {g : Nat} (h : a * (g : Int) = b) (hg : 0 < g) : a.natAbs ≤ b.natAbs := by
  rw [← h, Int.natAbs_mul, Int.natAbs_natCast]
  exact Nat.le_mul_of_pos_right _ hg
theorem rn_abs (z d : Int) : (rn z d).natAbs ≤ z.natAbs := Nat.le_trans (nabs_le_of_mul (rn_mul z d) (ug_pos z d)) (un_abs z d)
theorem rd_abs (z d : Int) : (rd z d).natAbs ≤ (ud z d).natAbs := nabs_le_of_mul (rd_mul z d) (ug_pos z d)
theorem dmQ_pos {x y : Int} (h : 0 < y) : dmQ x y = x / y := by unfold dmQ; rw [if_neg (by omega), if_pos h]
theorem rn_dm (z d : Int) : dmQ (un z d) (Int.gcd (un z d) (ud z d) : Nat) = rn z d := dmQ_pos (by have := ug_pos z d; omega)
theorem rd_dm (z d : Int) : dmQ (ud z d) (Int.gcd (un z d) (ud z d) : Nat) = rd z d := dmQ_pos (by have := ug_pos z d; omega)

theorem dvd_cop {a b d : Int} (h : b ∣ a * d) (hg : Int.gcd b a = 1) : b ∣ d := by
  have := (Int.dvd_mul_gcd_iff_dvd_mul (k := b) (n := d) (m := a)).2 (by rw [Int.mul_comm]; exact h)
  rw [hg] at this
  simpa using this
/-- Two canonical forms of one value are equal. -/
theorem canon_only {a b c d : Int} (hb : 0 < b) (hd : 0 < d) (hg : Int.gcd a b = 1) (hg' : Int.gcd c d = 1) (h : a * d = c * b) : a = c ∧ b = d := by
  have e1 : (Int.gcd a b : Int) = 1 := by rw [hg]; rfl
  have h1 : b ∣ d := by
    have : b ∣ a * d := ⟨c, by rw [h, Int.mul_comm]⟩
    exact dvd_cop this (by rw [Int.gcd_comm]; exact hg)
  have h2 : d ∣ b := by
    have : d ∣ c * b := ⟨a, by rw [← h, Int.mul_comm]⟩
    exact dvd_cop this (by rw [Int.gcd_comm]; exact hg')
  have h3 : b = d := Int.dvd_antisymm (by omega) (by omega) h1 h2
  subst h3
  exact ⟨Int.eq_of_mul_eq_mul_right (by omega) h, rfl⟩
theorem un_ud (z d : Int) (hd : d ≠ 0) : un z d * d = z * ud z d := by
  unfold un ud
  rw [if_neg hd, if_neg hd]
  split
  · rw [Int.neg_mul, Int.mul_neg]
  · rfl
theorem r_val (z d : Int) (hd : d ≠ 0) : rn z d * d = z * rd z d := by
  have h1 := rn_mul z d
  have h2 := rd_mul z d
  have h3 := ug_pos z d
  have h4 := un_ud z d hd
  refine Int.eq_of_mul_eq_mul_right (a := ((Int.gcd (un z d) (ud z d) : Nat) : Int)) (by omega) ?_
  rw [Int.mul_right_comm, h1, Int.mul_assoc, h2]
  exact h4
/-- The canonical form is known by its value. -/
theorem r_only {z d a b : Int} (hd : d ≠ 0) (hb : 0 < b) (hg : Int.gcd a b = 1) (h : a * d = z * b) : a = rn z d ∧ b = rd z d := by
  refine canon_only hb (rd_pos z d) hg (rn_gcd z d) ?_
  have h1 := r_val z d hd
  refine Int.eq_of_mul_eq_mul_right hd ?_
  calc a * rd z d * d = a * d * rd z d := Int.mul_right_comm _ _ _
    _ = z * b * rd z d := by rw [h]
    _ = z * rd z d * b := Int.mul_right_comm _ _ _
    _ = rn z d * d * b := by rw [h1]
    _ = rn z d * b * d := Int.mul_right_comm _ _ _
theorem r_same {z d z' d' : Int} (hd : d ≠ 0) (hd' : d' ≠ 0) (h : z * d' = z' * d) : rn z d = rn z' d' ∧ rd z d = rd z' d' := by
  refine r_only hd' (rd_pos z d) (rn_gcd z d) ?_
  have h1 := r_val z d hd
  refine Int.eq_of_mul_eq_mul_right hd ?_
  rw [Int.mul_right_comm, h1, Int.mul_right_comm, h, Int.mul_right_comm]
theorem r_zero (z : Int) : rn z 0 = 0 ∧ rd z 0 = 1 := by
  have e : Int.gcd 0 1 = 1 := rfl
  constructor
  · unfold rn; rw [un_zero, ud_zero, e]; rfl
  · unfold rd; rw [un_zero, ud_zero, e]; rfl
theorem r_self {a b : Int} (hb : 0 < b) (hg : Int.gcd a b = 1) : rn a b = a ∧ rd a b = b := by
  obtain ⟨h1, h2⟩ := r_only (z := a) (d := b) (by omega) hb hg rfl
  exact ⟨h1.symm, h2.symm⟩
theorem r_r (z d : Int) : rn (rn z d) (rd z d) = rn z d ∧ rd (rn z d) (rd z d) = rd z d := r_self (rd_pos z d) (rn_gcd z d)
theorem r_u (z d : Int) : rn (un z d) (ud z d) = rn z d ∧ rd (un z d) (ud z d) = rd z d := by
  have h := ud_pos z d
  unfold rn rd
  rw [un_pos h, ud_pos_ h]
  exact ⟨rfl, rfl⟩
/-- Euclid's step in machine words. -/
theorem gcd_tmod (a b : Int) : Int.gcd b (a.tmod b) = Int.gcd a b := by
  rw [Int.gcd_comm a b]
  have h := Int.tmod_add_mul_tdiv a b
  have : a.tmod b = a + b * (-(a.tdiv b)) := by rw [Int.mul_neg]; omega
  rw [this, Int.gcd_add_mul_left_right]
end Go.Proofs.Ytplmfdgdbolcaaa
