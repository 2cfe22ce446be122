/-
  The sum of two fractions (mathematics).
-/
import Derived.Test.YtplmfdgdbolcaaaFrMath
set_option linter.unusedVariables false
set_option linter.unusedSimpArgs false
namespace Go.Proofs.Ytplmfdgdbolcaaa

/-- The sum of the values of two pairs, in canonical form. -/
def aN (a b c d : Int) : Int := rn (rn a b * rd c d + rn c d * rd a b) (rd a b * rd c d)
def aD (a b c d : Int) : Int := rd (rn a b * rd c d + rn c d * rd a b) (rd a b * rd c d)

theorem mul_ne {a b : Int} (ha : a ≠ 0) (hb : b ≠ 0) : a * b ≠ 0 := fun h => (Int.mul_eq_zero.1 h).elim ha hb
/-- The sum of two pairs with positive second members. -/
theorem add_u (a b c d : Int) : rn (un a b * ud c d + un c d * ud a b) (ud a b * ud c d) = aN a b c d ∧ rd (un a b * ud c d + un c d * ud a b) (ud a b * ud c d) = aD a b c d := by
  have h1 := rn_mul a b
  have h2 := rd_mul a b
  have h3 := rn_mul c d
  have h4 := rd_mul c d
  have p1 := ud_pos a b
  have p2 := ud_pos c d
  have p3 := rd_pos a b
  have p4 := rd_pos c d
  unfold aN aD
  refine r_same (mul_ne (by omega) (by omega)) (mul_ne (by omega) (by omega)) ?_
  generalize ((Int.gcd (un a b) (ud a b) : Nat) : Int) = g at h1 h2
  generalize ((Int.gcd (un c d) (ud c d) : Nat) : Int) = k at h3 h4
  rw [← h1, ← h2, ← h3, ← h4]
  grind
theorem aD_pos (a b c d : Int) : 0 < aD a b c d := rd_pos _ _
theorem aN_gcd (a b c d : Int) : Int.gcd (aN a b c d) (aD a b c d) = 1 := rn_gcd _ _

/-- A divisor of both is 1 if it is prime to .. -/
theorem gcd_one_of_dvd {a b c : Int} (h : a ∣ b) (hg : Int.gcd b c = 1) : Int.gcd a c = 1 := by
  have := Int.gcd_dvd_gcd_of_dvd_left c h
  rw [hg] at this
  exact Nat.dvd_one.1 this
theorem gcd_mul_one {a b c : Int} (h : Int.gcd a b = 1) (h' : Int.gcd a c = 1) : Int.gcd a (b * c) = 1 := by
  have := Int.gcd_mul_right_dvd_mul_gcd a b c
  rw [h, h'] at this
  exact Nat.dvd_one.1 this
/-- The way of addCanonical: g the divisor of both denominators, t the numerator over the least one. -/
structure AddC (a b c d g e f t h x y : Int) : Prop where
  g0 : 0 < g
  hb : b = e * g
  hd : d = f * g
  ef : Int.gcd e f = 1
  tt : a * f + c * e = t
  h0 : 0 < h
  hh : ((Int.gcd t g : Nat) : Int) = h
  hx : x * h = t
  hy : y * h = d
theorem AddC.end_ {a b c d g e f t h x y : Int} (H : AddC a b c d g e f t h x y) (hb0 : 0 < b) (hd0 : 0 < d) (ha : Int.gcd a b = 1) (hc : Int.gcd c d = 1) :
    x = rn (a * d + c * b) (b * d) ∧ e * y = rd (a * d + c * b) (b * d) := by
  obtain ⟨g0, hb, hd, ef, tt, h0, hh, hx, hy⟩ := H
  obtain ⟨k, hk⟩ : h ∣ g := by rw [← hh]; exact Int.gcd_dvd_right ..
  have hy2 : y = f * k := by
    refine Int.eq_of_mul_eq_mul_right (a := h) (by omega) ?_
    rw [hy, hd, hk]; grind
  have e0 : 0 < e := by
    rcases Int.lt_trichotomy e 0 with h | h | h
    · have := Int.mul_neg_of_neg_of_pos h g0; omega
    · rw [h, Int.zero_mul] at hb; omega
    · exact h
  have y0 : 0 < y := by
    rcases Int.lt_trichotomy y 0 with h1 | h1 | h1
    · have := Int.mul_neg_of_neg_of_pos h1 h0; omega
    · rw [h1, Int.zero_mul] at hy; omega
    · exact h1
  -- prime to e
  have te : Int.gcd t e = 1 := by
    have h1 : Int.gcd a e = 1 := by rw [Int.gcd_comm]; exact gcd_one_of_dvd ⟨g, hb⟩ (by rw [Int.gcd_comm]; exact ha)
    have h2 : Int.gcd e (a * f) = 1 := gcd_mul_one (by rw [Int.gcd_comm]; exact h1) ef
    rw [← tt, Int.gcd_comm]
    rw [Int.gcd_add_mul_right_right]
    exact h2
  have tf : Int.gcd t f = 1 := by
    have h1 : Int.gcd c f = 1 := by rw [Int.gcd_comm]; exact gcd_one_of_dvd ⟨g, hd⟩ (by rw [Int.gcd_comm]; exact hc)
    have h2 : Int.gcd f (c * e) = 1 := gcd_mul_one (by rw [Int.gcd_comm]; exact h1) (by rw [Int.gcd_comm]; exact ef)
    rw [← tt, Int.gcd_comm, Int.add_comm]
    rw [Int.gcd_add_mul_right_right]
    exact h2
  have xt : x ∣ t := ⟨h, hx.symm⟩
  have xk : Int.gcd x k = 1 := by
    have h1 : x = t / h := by rw [← hx, Int.mul_ediv_cancel _ (by omega)]
    have h2 : k = g / h := by rw [hk, Int.mul_ediv_cancel_left _ (by omega)]
    have := Int.gcd_ediv_gcd_ediv_gcd (i := t) (j := g) (by omega)
    rw [hh] at this
    rw [h1, h2]
    exact this
  refine r_only (mul_ne (by omega) (by omega)) (Int.mul_pos e0 y0) ?_ ?_
  · rw [hy2]
    exact gcd_mul_one (gcd_one_of_dvd xt te) (gcd_mul_one (gcd_one_of_dvd xt tf) xk)
  · rw [hy2, hb, hd, hk]
    rw [hk] at hb hd
    have h3 : a * f + c * e = x * h := by rw [tt, hx]
    have : x * (e * (h * k) * (f * (h * k))) = (x * h) * (e * f * h * k * k) := by grind
    rw [this, ← h3]
    grind
end Go.Proofs.Ytplmfdgdbolcaaa
