/-
  Euclid's method with factors: pure mathematics.
-/
import Derived.WalkKit
set_option linter.unusedVariables false
set_option linter.unusedSimpArgs false
namespace Go.Proofs.Ytehoafpnmfkniaa

/-- Euclid's loop with one factor: what holds of its four numbers. -/
def Sol (a m g r x n : Int) : Prop :=
  ∃ X N s : Int, 0 ≤ X ∧ 0 ≤ N ∧ (s = 1 ∨ s = -1) ∧ x = s * X ∧ n = -s * N ∧ N * g + X * r = m ∧ X ≤ m ∧ 0 < g ∧ 0 ≤ r ∧ g ≤ m ∧ r ≤ m ∧ Int.gcd g r = Int.gcd a m ∧ (∃ k, a * x = g + k * m) ∧ (∃ k, a * n = r + k * m)

theorem gcd_emod_left' (a m : Int) : Int.gcd m (a % m) = Int.gcd a m := by
  rw [Int.emod_def, Int.gcd_sub_mul_left_right, Int.gcd_comm]

theorem Sol.start (a : Int) {m : Int} (hm : 0 < m) : Sol a m m (a % m) 0 1 := by
  have h0 := Int.emod_nonneg a (show m ≠ 0 by omega)
  have h1 := Int.emod_lt_of_pos a hm
  refine ⟨0, 1, -1, by omega, by omega, Or.inr rfl, by simp, by simp, by simp, by omega, hm, h0, Int.le_refl _, by omega, gcd_emod_left' a m, ⟨-1, by simp; omega⟩, ⟨a / m, ?_⟩⟩
  have := Int.emod_add_mul_ediv a m
  rw [Int.mul_one, Int.mul_comm (a / m)]; omega

theorem Sol.next_le {a m g r x n : Int} (h : Sol a m g r x n) : n.natAbs ≤ m.natAbs ∧ x.natAbs ≤ m.natAbs := by
  obtain ⟨X, N, s, hX, hN, hs, rfl, rfl, he, hXm, hg, hr, -⟩ := h
  have h1 : 0 ≤ X * r := Int.mul_nonneg hX hr
  have h2 : N * 1 ≤ N * g := Int.mul_le_mul_of_nonneg_left (by omega) hN
  rcases hs with rfl | rfl <;> constructor <;> omega

theorem Sol.step {a m g r x n : Int} (h : Sol a m g r x n) (h0 : 0 < r) : Sol a m r (g % r) n (x - g / r * n) := by
  have hnx := h.next_le
  obtain ⟨X, N, s, hX, hN, hs, rfl, rfl, he, hXm, hg, hr, hgm, hrm, hgcd, ⟨k, hk⟩, ⟨l, hl⟩⟩ := h
  have hq : 0 ≤ g / r := Int.ediv_nonneg (by omega) (by omega)
  have hm := Int.emod_add_mul_ediv g r
  have e0 := Int.emod_nonneg g (show r ≠ 0 by omega)
  have e1 := Int.emod_lt_of_pos g h0
  have hNm : N ≤ m := by rcases hs with rfl | rfl <;> omega
  generalize hQ : g / r = q at *
  generalize hR : g % r = p at *
  have hqN : 0 ≤ q * N := Int.mul_nonneg hq hN
  refine ⟨N, X + q * N, -s, hN, by omega, by omega, rfl, ?_, ?_, hNm, h0, e0, hrm, by omega, ?_, ⟨l, hl⟩, ⟨k - q * l, ?_⟩⟩
  · rcases hs with rfl | rfl <;> simp [Int.mul_neg] <;> omega
  · have : g = p + r * q := by omega
    rw [← he, this]
    rw [Int.add_mul, Int.mul_add, show q * N * r = N * (r * q) by rw [Int.mul_comm r q, Int.mul_comm q N, Int.mul_assoc]]
    omega
  · rw [← hgcd, ← hR, Int.emod_def, Int.gcd_sub_mul_left_right, Int.gcd_comm]
  · rw [Int.mul_sub, hk, Int.sub_mul, Int.mul_assoc q l m, show a * (q * (-s * N)) = q * (a * (-s * N)) by rw [← Int.mul_assoc, Int.mul_comm a q, Int.mul_assoc], hl, Int.mul_add]
    have : q * r = r * q := Int.mul_comm _ _
    omega
theorem Sol.last {a m g r x n : Int} (h : Sol a m g r x n) (h0 : r = 0) : g = Int.gcd a m ∧ (∃ k, a * x = g + k * m) := by
  obtain ⟨X, N, s, hX, hN, hs, rfl, rfl, he, hXm, hg, hr, hgm, hrm, hgcd, hk, _⟩ := h
  subst h0
  refine ⟨?_, hk⟩
  rw [← hgcd, Int.gcd_zero_right]
  omega

theorem eg_parts {a m : Int} (hm : 0 < m) : ∃ g u p : Int, g = Int.gcd a m ∧ 0 < g ∧ a = g * u ∧ m = g * p ∧ 0 < p ∧ m / g = p ∧ Int.gcd u p = 1 := by
  have hg : 0 < Int.gcd a m := Int.gcd_pos_of_ne_zero_right a (by omega)
  have h1 : ((Int.gcd a m : Nat) : Int) ∣ a := Int.gcd_dvd_left a m
  have h2 : ((Int.gcd a m : Nat) : Int) ∣ m := Int.gcd_dvd_right a m
  have hc := Int.gcd_ediv_gcd_ediv_gcd_of_ne_zero_right (n := a) (m := m) (by omega)
  refine ⟨(Int.gcd a m : Nat), a / (Int.gcd a m : Nat), m / (Int.gcd a m : Nat), rfl, by omega, (Int.mul_ediv_cancel' h1).symm, (Int.mul_ediv_cancel' h2).symm, ?_, rfl, hc⟩
  have h3 := Int.mul_ediv_cancel' h2
  by_cases h : 0 < m / (Int.gcd a m : Nat)
  · exact h
  · have : ((Int.gcd a m : Nat) : Int) * (m / (Int.gcd a m : Nat)) ≤ ((Int.gcd a m : Nat) : Int) * 0 := Int.mul_le_mul_of_nonneg_left (by omega) (by omega)
    omega

/-- The factor made small still is one. -/
theorem eg_small {a m x : Int} (hm : 0 < m) (hk : ∃ k, a * x = (Int.gcd a m : Nat) + k * m) :
    0 < m / (Int.gcd a m : Nat) ∧ m / (Int.gcd a m : Nat) ≤ m ∧ ∃ k, a * (x % (m / (Int.gcd a m : Nat))) = (Int.gcd a m : Nat) + k * m := by
  obtain ⟨g, u, p, rfl, hg, hu, hp, hp0, e, hc⟩ := eg_parts (a := a) hm
  rw [e]
  obtain ⟨k, hk⟩ := hk
  refine ⟨hp0, ?_, k - u * (x / p), ?_⟩
  · generalize ((a.gcd m : Nat) : Int) = g at *
    have : 1 * p ≤ g * p := Int.mul_le_mul_of_nonneg_right (by omega) (by omega)
    omega
  · generalize ((a.gcd m : Nat) : Int) = g at *
    rw [Int.emod_def, Int.mul_sub, hk, Int.sub_mul]
    have : a * (p * (x / p)) = u * (x / p) * m := by
      rw [hu, hp, Int.mul_comm g u, Int.mul_assoc u g, ← Int.mul_assoc g p, Int.mul_comm (g * p), ← Int.mul_assoc]
    omega

/-- There is but one. -/
theorem eg_only {a m x y k l : Int} (hm : 0 < m) (hx : 0 ≤ x) (hxp : x < m / (Int.gcd a m : Nat)) (hy : 0 ≤ y) (hyp : y < m / (Int.gcd a m : Nat))
    (h1 : a * x = (Int.gcd a m : Nat) + k * m) (h2 : a * y = (Int.gcd a m : Nat) + l * m) : x = y := by
  obtain ⟨g, u, p, rfl, hg, hu, hp, hp0, e, hc⟩ := eg_parts (a := a) hm
  rw [e] at hxp hyp
  generalize ((a.gcd m : Nat) : Int) = g at *
  have h3 : a * (x - y) = (k - l) * m := by rw [Int.mul_sub, Int.sub_mul]; omega
  have h4 : u * (x - y) = (k - l) * p := by
    apply Int.eq_of_mul_eq_mul_left (show g ≠ 0 by omega)
    rw [← Int.mul_assoc, ← hu, h3, hp, ← Int.mul_assoc, ← Int.mul_assoc, Int.mul_comm g]
  have h5 : p ∣ u * (x - y) := ⟨k - l, by rw [h4, Int.mul_comm]⟩
  have h6 : p ∣ x - y := by
    have e2 : Int.gcd p (u * (x - y)) = Int.gcd p (x - y) := by
      rw [Int.mul_comm]; exact Int.gcd_mul_left_right_of_gcd_eq_one (by rw [Int.gcd_comm]; exact hc)
    have e3 := Int.gcd_eq_left_iff_dvd (by omega : 0 ≤ p) |>.2 h5
    rw [e2] at e3
    exact Int.gcd_eq_left_iff_dvd (by omega : 0 ≤ p) |>.1 e3
  obtain ⟨t, ht⟩ := h6
  rcases Int.lt_trichotomy t 0 with h | h | h
  · have : p * t ≤ p * (-1) := Int.mul_le_mul_of_nonneg_left (by omega) (by omega)
    omega
  · subst h; omega
  · have : p * 1 ≤ p * t := Int.mul_le_mul_of_nonneg_left (by omega) (by omega)
    omega
end Go.Proofs.Ytehoafpnmfkniaa
