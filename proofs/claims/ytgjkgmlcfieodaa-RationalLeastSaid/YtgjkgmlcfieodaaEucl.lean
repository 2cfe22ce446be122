/-
  Euclid's method with factors: pure mathematics.
  Lehmer's method: what the steps foreseen from leading parts are worth. Pure mathematics.
-/
import Derived.WalkKit
set_option linter.unusedVariables false
set_option linter.unusedSimpArgs false
namespace Go.Proofs.Ytgjkgmlcfieodaa

/-- Euclid's loop with one factor: what holds of its four numbers. -/
def Sol (a m g r x n : Int) : Prop :=
  ∃ X N s : Int, 0 ≤ X ∧ 0 ≤ N ∧ (s = 1 ∨ s = -1) ∧ x = s * X ∧ n = -s * N ∧ N * g + X * r = m ∧ X ≤ m ∧ 0 < g ∧ 0 ≤ r ∧ g ≤ m ∧ r ≤ m ∧ Int.gcd g r = Int.gcd a m ∧ (∃ k, a * x = g + k * m) ∧ (∃ k, a * n = r + k * m)

theorem gcd_emod_left' (a m : Int) : Int.gcd m (a % m) = Int.gcd a m := by
  rw [Int.emod_def, Int.gcd_sub_mul_left_right, Int.gcd_comm]

theorem Sol.start (a : Int) {m : Int} (hm : 0 < m) : Sol a m m (a % m) 0 1 := by
  have h0 := Int.emod_nonneg a (show m ≠ 0 by omega)
  have h1 := Int.emod_lt_of_pos a hm
  refine ⟨0, 1, -1, by omega, by omega, Or.inr rfl, by simp, by simp, by simp, by omega, hm, h0, Int.le_refl _, by omega, gcd_emod_left' a m, ⟨-1, by simp; omega⟩, ⟨a / m, ?_⟩⟩
  have := Int.emod_add_mul_ediv a m
  rw [Int.mul_one, Int.mul_comm (a / m)]; omega

theorem Sol.next_le {a m g r x n : Int} (h : Sol a m g r x n) : n.natAbs ≤ m.natAbs ∧ x.natAbs ≤ m.natAbs := by
  obtain ⟨X, N, s, hX, hN, hs, rfl, rfl, he, hXm, hg, hr, -⟩ := h
  have h1 : 0 ≤ X * r := Int.mul_nonneg hX hr
  have h2 : N * 1 ≤ N * g := Int.mul_le_mul_of_nonneg_left (by omega) hN
  rcases hs with rfl | rfl <;> constructor <;> omega

theorem Sol.step {a m g r x n : Int} (h : Sol a m g r x n) (h0 : 0 < r) : Sol a m r (g % r) n (x - g / r * n) := by
  have hnx := h.next_le
  obtain ⟨X, N, s, hX, hN, hs, rfl, rfl, he, hXm, hg, hr, hgm, hrm, hgcd, ⟨k, hk⟩, ⟨l, hl⟩⟩ := h
  have hq : 0 ≤ g / r := Int.ediv_nonneg (by omega) (by omega)
  have hm := Int.emod_add_mul_ediv g r
  have e0 := Int.emod_nonneg g (show r ≠ 0 by omega)
  have e1 := Int.emod_lt_of_pos g h0
  have hNm : N ≤ m := by rcases hs with rfl | rfl <;> omega
  generalize hQ : g / r = q at *
  generalize hR : g % r = p at *
  have hqN : 0 ≤ q * N := Int.mul_nonneg hq hN
  refine ⟨N, X + q * N, -s, hN, by omega, by omega, rfl, ?_, ?_, hNm, h0, e0, hrm, by omega, ?_, ⟨l, hl⟩, ⟨k - q * l, ?_⟩⟩
  · rcases hs with rfl | rfl <;> simp [Int.mul_neg] <;> omega
  · have : g = p + r * q := by omega
    rw [← he, this]
    rw [Int.add_mul, Int.mul_add, show q * N * r = N * (r * q) by rw [Int.mul_comm r q, Int.mul_comm q N, Int.mul_assoc]]
    omega
  · rw [← hgcd, ← hR, Int.emod_def, Int.gcd_sub_mul_left_right, Int.gcd_comm]
  · rw [Int.mul_sub, hk, Int.sub_mul, Int.mul_assoc q l m, show a * (q * (-s * N)) = q * (a * (-s * N)) by rw [← Int.mul_assoc, Int.mul_comm a q, Int.mul_assoc], hl, Int.mul_add]
    have : q * r = r * q := Int.mul_comm _ _
    omega
theorem Sol.last {a m g r x n : Int} (h : Sol a m g r x n) (h0 : r = 0) : g = Int.gcd a m ∧ (∃ k, a * x = g + k * m) := by
  obtain ⟨X, N, s, hX, hN, hs, rfl, rfl, he, hXm, hg, hr, hgm, hrm, hgcd, hk, _⟩ := h
  subst h0
  refine ⟨?_, hk⟩
  rw [← hgcd, Int.gcd_zero_right]
  omega

theorem eg_parts {a m : Int} (hm : 0 < m) : ∃ g u p : Int, g = Int.gcd a m ∧ 0 < g ∧ a = g * u ∧ m = g * p ∧ 0 < p ∧ m / g = p ∧ Int.gcd u p = 1 := by
  have hg : 0 < Int.gcd a m := Int.gcd_pos_of_ne_zero_right a (by omega)
  have h1 : ((Int.gcd a m : Nat) : Int) ∣ a := Int.gcd_dvd_left a m
  have h2 : ((Int.gcd a m : Nat) : Int) ∣ m := Int.gcd_dvd_right a m
  have hc := Int.gcd_ediv_gcd_ediv_gcd_of_ne_zero_right (n := a) (m := m) (by omega)
  refine ⟨(Int.gcd a m : Nat), a / (Int.gcd a m : Nat), m / (Int.gcd a m : Nat), rfl, by omega, (Int.mul_ediv_cancel' h1).symm, (Int.mul_ediv_cancel' h2).symm, ?_, rfl, hc⟩
  have h3 := Int.mul_ediv_cancel' h2
  by_cases h : 0 < m / (Int.gcd a m : Nat)
  · exact h
  · have : ((Int.gcd a m : Nat) : Int) * (m / (Int.gcd a m : Nat)) ≤ ((Int.gcd a m : Nat) : Int) * 0 := Int.mul_le_mul_of_nonneg_left (by omega) (by omega)
    omega

/-- The factor made small still is one. -/
theorem eg_small {a m x : Int} (hm : 0 < m) (hk : ∃ k, a * x = (Int.gcd a m : Nat) + k * m) :
    0 < m / (Int.gcd a m : Nat) ∧ m / (Int.gcd a m : Nat) ≤ m ∧ ∃ k, a * (x % (m / (Int.gcd a m : Nat))) = (Int.gcd a m : Nat) + k * m := by
  obtain ⟨g, u, p, rfl, hg, hu, hp, hp0, e, hc⟩ := eg_parts (a := a) hm
  rw [e]
  obtain ⟨k, hk⟩ := hk
  refine ⟨hp0, ?_, k - u * (x / p), ?_⟩
  · generalize ((a.gcd m : Nat) : Int) = g at *
    have : 1 * p ≤ g * p := Int.mul_le_mul_of_nonneg_right (by omega) (by omega)
    omega
  · generalize ((a.gcd m : Nat) : Int) = g at *
    rw [Int.emod_def, Int.mul_sub, hk, Int.sub_mul]
    have : a * (p * (x / p)) = u * (x / p) * m := by
      rw [hu, hp, Int.mul_comm g u, Int.mul_assoc u g, ← Int.mul_assoc g p, Int.mul_comm (g * p), ← Int.mul_assoc]
    omega

/-- There is but one. -/
theorem eg_only {a m x y k l : Int} (hm : 0 < m) (hx : 0 ≤ x) (hxp : x < m / (Int.gcd a m : Nat)) (hy : 0 ≤ y) (hyp : y < m / (Int.gcd a m : Nat))
    (h1 : a * x = (Int.gcd a m : Nat) + k * m) (h2 : a * y = (Int.gcd a m : Nat) + l * m) : x = y := by
  obtain ⟨g, u, p, rfl, hg, hu, hp, hp0, e, hc⟩ := eg_parts (a := a) hm
  rw [e] at hxp hyp
  generalize ((a.gcd m : Nat) : Int) = g at *
  have h3 : a * (x - y) = (k - l) * m := by rw [Int.mul_sub, Int.sub_mul]; omega
  have h4 : u * (x - y) = (k - l) * p := by
    apply Int.eq_of_mul_eq_mul_left (show g ≠ 0 by omega)
    rw [← Int.mul_assoc, ← hu, h3, hp, ← Int.mul_assoc, ← Int.mul_assoc, Int.mul_comm g]
  have h5 : p ∣ u * (x - y) := ⟨k - l, by rw [h4, Int.mul_comm]⟩
  have h6 : p ∣ x - y := by
    have e2 : Int.gcd p (u * (x - y)) = Int.gcd p (x - y) := by
      rw [Int.mul_comm]; exact Int.gcd_mul_left_right_of_gcd_eq_one (by rw [Int.gcd_comm]; exact hc)
    have e3 := Int.gcd_eq_left_iff_dvd (by omega : 0 ≤ p) |>.2 h5
    rw [e2] at e3
    exact Int.gcd_eq_left_iff_dvd (by omega : 0 ≤ p) |>.1 e3
  obtain ⟨t, ht⟩ := h6
  rcases Int.lt_trichotomy t 0 with h | h | h
  · have : p * t ≤ p * (-1) := Int.mul_le_mul_of_nonneg_left (by omega) (by omega)
    omega
  · subst h; omega
  · have : p * 1 ≤ p * t := Int.mul_le_mul_of_nonneg_left (by omega) (by omega)
    omega

/-- One step of Euclid's algorithm on leading parts, the first way round: what the new factors are like. -/
theorem fo_step1 {X Y x y a b c d q : Int} (hx : x = a * X + b * Y) (hy : y = c * X + d * Y) (ha : 0 ≤ a) (hb : b ≤ 0) (hc : c ≤ 0) (hd : 0 ≤ d) (hdet : a * d - c * b = 1)
    (hX : X < 4611686018427387904) (hY : Y < 4611686018427387904) (hxa : 0 < x + a) (hxb : 0 < x + b) (hyc : 0 < y + c) (hyd : 0 < y + d) (h1 : (x + a) / (y + c) = q) (h2 : (x + b) / (y + d) = q) :
    0 ≤ q ∧ q ≤ x + a ∧ 0 ≤ x - q * y ∧ x - q * y < y ∧ 0 ≤ a - q * c ∧ a - q * c < 2147483648 ∧ b - q * d ≤ 0 ∧ -2147483648 < b - q * d ∧
      0 ≤ x - q * y + (a - q * c) ∧ 0 ≤ x - q * y + (b - q * d) ∧ x - q * y + (a - q * c) < y + c ∧ x - q * y + (b - q * d) < y + d ∧
      x - q * y = (a - q * c) * X + (b - q * d) * Y ∧ c * (b - q * d) - (a - q * c) * d = -1 ∧ q * c ≤ 0 ∧ 0 ≤ q * d := by
  have hq : 0 ≤ q := by rw [← h1]; exact Int.ediv_nonneg (by omega) (by omega)
  have e1 := Int.emod_add_mul_ediv (x + a) (y + c)
  have e2 := Int.emod_add_mul_ediv (x + b) (y + d)
  have l1 := Int.emod_nonneg (x + a) (show y + c ≠ 0 by omega)
  have l2 := Int.emod_lt_of_pos (x + a) hyc
  have l3 := Int.emod_nonneg (x + b) (show y + d ≠ 0 by omega)
  have l4 := Int.emod_lt_of_pos (x + b) hyd
  rw [h1] at e1
  rw [h2] at e2
  generalize (x + a) % (y + c) = r1 at *
  generalize (x + b) % (y + d) = r2 at *
  have m1 : (y + c) * q = q * y + q * c := by rw [Int.add_mul, Int.mul_comm y, Int.mul_comm c]
  have m2 : (y + d) * q = q * y + q * d := by rw [Int.add_mul, Int.mul_comm y, Int.mul_comm d]
  have qc : q * c ≤ 0 := Int.mul_nonpos_of_nonneg_of_nonpos hq hc
  have qd : 0 ≤ q * d := Int.mul_nonneg hq hd
  have hqx : q ≤ x + a := by
    have : q * 1 ≤ q * (y + c) := Int.mul_le_mul_of_nonneg_left (by omega) hq
    rw [Int.mul_comm q (y + c)] at this
    omega
  have hy0 : 0 ≤ x - q * y := by omega
  -- the two identities
  have i1 : y * (b - q * d) - (x - q * y) * d = -X := by
    have : y * (b - q * d) - (x - q * y) * d = y * b - x * d := by
      rw [Int.mul_sub, Int.sub_mul, show y * (q * d) = q * y * d by rw [Int.mul_comm q y, Int.mul_assoc]]; omega
    rw [this, hx, hy, Int.add_mul, Int.add_mul]
    have t1 : c * X * b = c * b * X := by rw [Int.mul_assoc, Int.mul_comm X, ← Int.mul_assoc]
    have t2 : d * Y * b = b * Y * d := by rw [Int.mul_assoc, Int.mul_comm d, Int.mul_comm Y b]
    have t3 : a * X * d = a * d * X := by rw [Int.mul_assoc, Int.mul_comm X, ← Int.mul_assoc]
    rw [t1, t2, t3]
    have : (a * d - c * b) * X = 1 * X := by rw [hdet]
    rw [Int.sub_mul] at this
    omega
  have i2 : y * (a - q * c) - (x - q * y) * c = Y := by
    have : y * (a - q * c) - (x - q * y) * c = y * a - x * c := by
      rw [Int.mul_sub, Int.sub_mul, show y * (q * c) = q * y * c by rw [Int.mul_comm q y, Int.mul_assoc]]; omega
    rw [this, hx, hy, Int.add_mul, Int.add_mul]
    have t1 : c * X * a = a * X * c := by rw [Int.mul_comm c X, Int.mul_assoc, Int.mul_comm c a, ← Int.mul_assoc, Int.mul_comm X a]
    have t2 : d * Y * a = a * d * Y := by rw [Int.mul_comm (d * Y) a, ← Int.mul_assoc]
    have t3 : b * Y * c = c * b * Y := by rw [Int.mul_comm (b * Y) c, ← Int.mul_assoc]
    rw [t1, t2, t3]
    have : (a * d - c * b) * Y = 1 * Y := by rw [hdet]
    rw [Int.sub_mul] at this
    omega
  have p1 : 0 ≤ (x - q * y) * d := Int.mul_nonneg hy0 hd
  have p2 : (x - q * y) * c ≤ 0 := Int.mul_nonpos_of_nonneg_of_nonpos hy0 hc
  have n1 : 0 ≤ a - q * c := by omega
  have n2 : b - q * d ≤ 0 := by omega
  have n3 : -(b - q * d) ≤ x - q * y := by omega
  have n4 : x - q * y < y := by omega
  have n5 : a - q * c < y := by omega
  generalize hs : a - q * c = s at *
  generalize ht : b - q * d = t at *
  generalize hz : x - q * y = z at *
  refine ⟨hq, hqx, hy0, n4, n1, ?_, n2, ?_, by omega, by omega, by omega, by omega, ?_, ?_, qc, qd⟩
  · by_cases h : s < 2147483648
    · exact h
    · have g1 : 2147483648 * 2147483648 ≤ y * s := Int.mul_le_mul (by omega) (by omega) (by omega) (by omega)
      omega
  · by_cases h : -2147483648 < t
    · exact h
    · have g1 : 2147483648 * 2147483648 ≤ y * (-t) := Int.mul_le_mul (by omega) (by omega) (by omega) (by omega)
      rw [Int.mul_neg] at g1
      omega
  · rw [← hz, ← hs, ← ht, hx, hy, Int.sub_mul, Int.sub_mul, Int.mul_add, ← Int.mul_assoc, ← Int.mul_assoc]; omega
  · rw [← hs, ← ht, Int.mul_sub, Int.sub_mul, show c * (q * d) = q * c * d by rw [← Int.mul_assoc, Int.mul_comm c q]]
    omega
theorem fo_low {e u D : Int} (he : e ≤ 0) (hu : u < D) : e * D ≤ e * u := by
  have : 0 ≤ (-e) * (D - u) := Int.mul_nonneg (by omega) (by omega)
  rw [Int.neg_mul, Int.mul_sub] at this
  omega
/-- The numbers themselves behind a step, the first way round. -/
theorem fo_true1 {A B D X Y u v x y a b c d q s t : Int} (hA : A = D * X + u) (hB : B = D * Y + v) (hD : 0 < D) (hu : 0 ≤ u) (huD : u < D) (hv : 0 ≤ v) (hvD : v < D)
    (hy : y = c * X + d * Y) (hz : x - q * y = s * X + t * Y) (hs : s = a - q * c) (ht : t = b - q * d) (hc : c ≤ 0) (hd : 0 ≤ d) (hs0 : 0 ≤ s) (ht0 : t ≤ 0)
    (h1 : 0 ≤ x - q * y + t) (h2 : x - q * y + s < y + c) :
    0 ≤ s * A + t * B ∧ s * A + t * B < c * A + d * B := by
  have e1 : s * A + t * B = D * (x - q * y) + s * u + t * v := by
    rw [hA, hB, hz, Int.mul_add, Int.mul_add, Int.mul_add, ← Int.mul_assoc, ← Int.mul_assoc, ← Int.mul_assoc, ← Int.mul_assoc, Int.mul_comm s D, Int.mul_comm t D]; omega
  have e2 : c * A + d * B = D * y + c * u + d * v := by
    rw [hA, hB, hy, Int.mul_add, Int.mul_add, Int.mul_add, ← Int.mul_assoc, ← Int.mul_assoc, ← Int.mul_assoc, ← Int.mul_assoc, Int.mul_comm c D, Int.mul_comm d D]; omega
  generalize x - q * y = z at *
  have l1 := fo_low ht0 hvD
  have l2 : 0 ≤ s * u := Int.mul_nonneg hs0 hu
  have l3 : (c - s) * D ≤ (c - s) * u := fo_low (by omega) huD
  have l4 : 0 ≤ (d - t) * v := Int.mul_nonneg (by omega) hv
  have l5 : 0 ≤ D * (z + t) := Int.mul_nonneg (by omega) h1
  have l6 : D * 1 ≤ D * (y + c - (z + s)) := Int.mul_le_mul_of_nonneg_left (by omega) (by omega)
  rw [Int.mul_add] at l5
  rw [Int.mul_sub, Int.mul_add, Int.mul_add] at l6
  rw [Int.sub_mul, Int.sub_mul] at l3
  rw [Int.sub_mul] at l4
  rw [Int.mul_comm t D] at l1
  rw [Int.mul_comm c D, Int.mul_comm s D] at l3
  rw [e1, e2]
  omega

/-- What holds at the head of the loop that foresees steps. -/
def FoI (A B X Y x y a b c d : Int) : Prop :=
  x = a * X + b * Y ∧ y = c * X + d * Y ∧
    ((0 ≤ a ∧ b ≤ 0 ∧ c ≤ 0 ∧ 0 ≤ d ∧ a * d - c * b = 1) ∨ (a ≤ 0 ∧ 0 ≤ b ∧ 0 ≤ c ∧ d ≤ 0 ∧ a * d - c * b = -1)) ∧
    (-2147483648 < a ∧ a < 2147483648 ∧ -2147483648 < b ∧ b < 2147483648 ∧ -2147483648 < c ∧ c < 2147483648 ∧ -2147483648 < d ∧ d < 2147483648) ∧
    (0 < x + a ∧ 0 < x + b ∧ 0 ≤ y + c ∧ 0 ≤ y + d ∧ 0 ≤ x ∧ x < 4611686018427387904 ∧ 0 ≤ y ∧ y < 4611686018427387904) ∧
    (0 ≤ c * A + d * B ∧ c * A + d * B ≤ a * A + b * B ∧ a * A + b * B ≤ A ∧ c * A + d * B ≤ B ∧ (b ≠ 0 → c * A + d * B < B) ∧ Int.gcd (a * A + b * B) (c * A + d * B) = Int.gcd A B)

theorem FoI.start {A B X Y : Int} (hX : 0 < X) (hXl : X < 4611686018427387904) (hY : 0 ≤ Y) (hYl : Y < 4611686018427387904) (hB : 0 ≤ B) (hBA : B ≤ A) : FoI A B X Y X Y 1 0 0 1 := by
  refine ⟨by omega, by omega, Or.inl ⟨by omega, by omega, by omega, by omega, by omega⟩, by omega, by omega, ?_⟩
  simp only [Int.one_mul, Int.zero_mul, Int.add_zero, Int.zero_add]
  exact ⟨hB, hBA, Int.le_refl _, Int.le_refl _, fun h => absurd rfl h, trivial⟩

theorem FoI.step {A B D X Y u v x y a b c d q : Int} (h : FoI A B X Y x y a b c d) (hA : A = D * X + u) (hB : B = D * Y + v) (hD : 0 < D) (hu : 0 ≤ u) (huD : u < D) (hv : 0 ≤ v) (hvD : v < D)
    (hX : X < 4611686018427387904) (hY : Y < 4611686018427387904) (hyc : y + c ≠ 0) (hyd : y + d ≠ 0) (h1 : (x + a) / (y + c) = q) (h2 : (x + b) / (y + d) = q) :
    FoI A B X Y y (x - q * y) c d (a - q * c) (b - q * d) ∧ x - q * y < y ∧ 0 ≤ q ∧ q ≤ x + a ∧ 0 ≤ q * y ∧ q * y ≤ x ∧ -4294967296 < q * c ∧ q * c < 4294967296 ∧ -4294967296 < q * d ∧ q * d < 4294967296 := by
  obtain ⟨hx, hy, hp, ⟨b1, b2, b3, b4, b5, b6, b7, b8⟩, ⟨k1, k2, k3, k4, k5, k6, k7, k8⟩, ⟨s0, s1, s2, s3, s4, hg⟩⟩ := h
  have hnew : (a - q * c) * A + (b - q * d) * B = (a * A + b * B) - (c * A + d * B) * q := by
    rw [Int.sub_mul, Int.sub_mul, Int.add_mul, Int.mul_assoc q c A, Int.mul_comm q (c * A), Int.mul_assoc q d B, Int.mul_comm q (d * B)]; omega
  have hgcd : Int.gcd (c * A + d * B) ((a - q * c) * A + (b - q * d) * B) = Int.gcd A B := by
    rw [hnew, Int.gcd_sub_mul_left_right, Int.gcd_comm, hg]
  rcases hp with ⟨ha, hb, hc, hd, hdet⟩ | ⟨ha, hb, hc, hd, hdet⟩
  · obtain ⟨r1, r2, r3, r4, r5, r6, r7, r8, r9, r10, r11, r12, r13, r14, r15, r16⟩ := fo_step1 hx hy ha hb hc hd hdet hX hY k1 k2 (by omega) (by omega) h1 h2
    obtain ⟨t1, t2⟩ := fo_true1 hA hB hD hu huD hv hvD hy r13 rfl rfl hc hd r5 r7 r10 r11
    refine ⟨⟨hy, r13, Or.inr ⟨hc, hd, r5, r7, r14⟩, ?_, ?_, t1, Int.le_of_lt t2, by omega, by omega, fun _ => by omega, hgcd⟩, r4, r1, r2, ?_, ?_, ?_, ?_, ?_, ?_⟩
    · omega
    · omega
    · exact Int.mul_nonneg r1 k7
    · omega
    · omega
    · omega
    · omega
    · omega
  · have hx' : x = b * Y + a * X := by omega
    have hy' : y = d * Y + c * X := by omega
    obtain ⟨r1, r2, r3, r4, r5, r6, r7, r8, r9, r10, r11, r12, r13, r14, r15, r16⟩ := fo_step1 hx' hy' hb ha hd hc (by rw [Int.mul_comm b c, Int.mul_comm d a]; omega) hY hX k2 k1 (by omega) (by omega) h2 h1
    have r13' : x - q * y = (b - q * d) * Y + (a - q * c) * X := r13
    obtain ⟨t1, t2⟩ := fo_true1 hB hA hD hv hvD hu huD hy' r13' rfl rfl hd hc r5 r7 r10 r11
    have hqa : q ≤ x + a := by
      have e1 := Int.emod_add_mul_ediv (x + a) (y + c)
      have l1 := Int.emod_nonneg (x + a) (show y + c ≠ 0 by omega)
      rw [h1] at e1
      have : q * 1 ≤ q * (y + c) := Int.mul_le_mul_of_nonneg_left (by omega) r1
      rw [Int.mul_comm q (y + c)] at this
      omega
    refine ⟨⟨hy, by omega, Or.inl ⟨hc, hd, r7, r5, ?_⟩, ?_, ?_, by omega, by omega, by omega, by omega, fun _ => by omega, hgcd⟩, r4, r1, hqa, ?_, ?_, ?_, ?_, ?_, ?_⟩
    · rw [Int.mul_comm d, Int.mul_comm (b - q * d)] at r14; omega
    · omega
    · omega
    · exact Int.mul_nonneg r1 k7
    · omega
    · omega
    · omega
    · omega
    · omega
end Go.Proofs.Ytgjkgmlcfieodaa

