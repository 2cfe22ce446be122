/-
  What long division is built on: windows of digits, and that the guess from the top digits is the quotient or one more.
-/
import Derived.Test.YtehoafpnmfkniaaRow
set_option linter.unusedVariables false
set_option linter.unusedSimpArgs false
namespace Go.Proofs.Ytehoafpnmfkniaa
open Go.RowKit

/-- The value of k digits from off on. -/
def win (xs : List Nat) (off : Nat) : Nat → Nat
  | 0 => 0
  | k + 1 => win xs off k + BB ^ k * xs.getD (off + k) 0

theorem win_congr {xs ys : List Nat} {off : Nat} : ∀ {k : Nat}, (∀ j, off ≤ j → j < off + k → xs.getD j 0 = ys.getD j 0) → win xs off k = win ys off k
  | 0, _ => rfl
  | k + 1, h => by
    rw [win, win, win_congr fun j h1 h2 => h j h1 (by omega), h (off + k) (by omega) (by omega)]
theorem win_lt {xs : List Nat} (h : Dig xs) (off : Nat) : ∀ k : Nat, win xs off k < BB ^ k
  | 0 => by simp [win]
  | k + 1 => by
    have h1 := win_lt h off k
    have h2 : BB ^ k * (xs.getD (off + k) 0 + 1) ≤ BB ^ k * BB := Nat.mul_le_mul_left _ (h.getD _)
    rw [Nat.mul_add, Nat.mul_one] at h2
    rw [win, Nat.pow_succ]
    omega
theorem win_zero (xs : List Nat) : ∀ k : Nat, win xs 0 k = val (xs.take k)
  | 0 => by simp [win, val]
  | k + 1 => by rw [win, win_zero xs k, val_take_any, Nat.zero_add]
theorem win_add (xs : List Nat) (off k : Nat) : ∀ m : Nat, win xs off (k + m) = win xs off k + BB ^ k * win xs (off + k) m
  | 0 => by simp [win]
  | m + 1 => by
    rw [← Nat.add_assoc, win, win_add xs off k m, win, Nat.mul_add, Nat.pow_add, Nat.add_assoc off k m, Nat.mul_assoc, Nat.add_assoc]

theorem subp_arith (p d v u B O Nw c bo cn bo' f low x : Nat) (h : Nw + f * v = O + p * (c + bo)) (h1 : c + x * f = low + B * cn) (h2 : d + low + bo = u + B * bo') :
    (Nw + p * d) + f * (v + p * x) = (O + p * u) + p * B * (cn + bo') := by
  have e1 : f * (v + p * x) = f * v + p * (x * f) := by rw [Nat.mul_add]; congr 1; rw [← Nat.mul_assoc, Nat.mul_comm f p, Nat.mul_assoc, Nat.mul_comm f x]
  have e2 : p * B * (cn + bo') = p * (B * cn) + p * (B * bo') := by rw [Nat.mul_assoc, Nat.mul_add, Nat.mul_add]
  have e3 : p * c + p * (x * f) = p * low + p * (B * cn) := by rw [← Nat.mul_add, ← Nat.mul_add, h1]
  have e4 : p * d + p * low + p * bo = p * u + p * (B * bo') := by rw [← Nat.mul_add, ← Nat.mul_add, ← Nat.mul_add, h2]
  rw [Nat.mul_add] at h
  omega

theorem addp_arith (p d v u B O Nw c cn x : Nat) (h : Nw + p * c = O + v) (h1 : c + u + x = d + B * cn) :
    (Nw + p * d) + p * B * cn = (O + p * u) + (v + p * x) := by
  have e2 : p * B * cn = p * (B * cn) := Nat.mul_assoc _ _ _
  have e3 : p * c + p * u + p * x = p * d + p * (B * cn) := by rw [← Nat.mul_add, ← Nat.mul_add, ← Nat.mul_add, h1]
  omega

theorem shl_arith (p t c x s A V B : Nat) (h : V + p * c = A * s) (ht : t = c + x * s) : (V + p * (t % B)) + p * B * (t / B) = (A + p * x) * s := by
  have h1 : p * (t % B) + p * B * (t / B) = p * t := by rw [Nat.mul_assoc, ← Nat.mul_add, Nat.mod_add_div]
  have h2 : p * t = p * c + p * x * s := by rw [ht, Nat.mul_add, Nat.mul_assoc]
  rw [Nat.add_mul]
  omega

/-- The value of the top digits decides: the guess from the three top digits of the dividend and the two top digits of the divisor. -/
def guessOf (t D : Nat) : Nat := min (t / D) (BB - 1)

/-- KNUTH's THEOREM: the guess is the quotient or one more. P = t m + p, V = D m + v with p, v < m. -/
theorem guess_ge {P V t D m p v : Nat} (hP : P = t * m + p) (hV : V = D * m + v) (hp : p < m) (hD : 0 < D) (hq : P < V * BB) : P / V ≤ guessOf t D := by
  have hm : 0 < m := by omega
  have hV0 : 0 < V := by rw [hV]; have := Nat.mul_pos hD hm; omega
  unfold guessOf
  rw [Nat.le_min]
  constructor
  · rw [Nat.le_div_iff_mul_le hD]
    have h1 : P / V * V ≤ P := Nat.div_mul_le_self P V
    have h2 : P / V * D * m ≤ P / V * V := by rw [hV, Nat.mul_assoc]; exact Nat.mul_le_mul_left _ (by omega)
    have h3 : P / V * D * m < (t + 1) * m := by rw [Nat.add_mul, Nat.one_mul]; omega
    have := Nat.lt_of_mul_lt_mul_right h3
    omega
  · have : P / V < BB := by rw [Nat.div_lt_iff_lt_mul hV0, Nat.mul_comm]; exact hq
    omega

theorem guess_le {P V t D m p v : Nat} (hP : P = t * m + p) (hV : V = D * m + v) (hp : p < m) (hv : v < m) (hD : BB ≤ D) : guessOf t D ≤ P / V + 1 := by
  have hm : 0 < m := by omega
  have hB := BB_pos
  have hV0 : 0 < V := by rw [hV]; have := Nat.mul_pos (show 0 < D by omega) hm; omega
  by_cases h0 : guessOf t D = 0
  · rw [h0]; exact Nat.zero_le _
  obtain ⟨g, hg⟩ : ∃ g, guessOf t D = g + 1 := ⟨guessOf t D - 1, by omega⟩
  rw [hg]
  have hle : g ≤ P / V := by
    rw [Nat.le_div_iff_mul_le hV0]
    have h1 : (g + 1) * D ≤ t := by
      have : g + 1 ≤ t / D := by rw [← hg]; exact Nat.min_le_left _ _
      exact (Nat.le_div_iff_mul_le (by omega)).1 this
    have h2 : g + 1 ≤ BB - 1 := by rw [← hg]; exact Nat.min_le_right _ _
    have h3 : (g + 1) * D * m ≤ t * m := Nat.mul_le_mul_right _ h1
    have h4 : g * V ≤ g * ((D + 1) * m) := Nat.mul_le_mul_left _ (by rw [hV, Nat.add_mul]; omega)
    have h5 : g * ((D + 1) * m) ≤ (g + 1) * D * m := by
      rw [← Nat.mul_assoc]
      refine Nat.mul_le_mul_right _ ?_
      rw [Nat.mul_add, Nat.add_mul]
      omega
    omega
  exact Nat.succ_le_succ hle

/-- What one round of the loop sees: the guess is too large exactly if the test says so. -/
theorem guess_test {g r h nx u T D : Nat} (hT : T = g * h + r) (hD : D = h * BB + nx) (hD0 : 0 < D) : g * nx > r * BB + u ↔ (T * BB + u) / D < g := by
  rw [Nat.div_lt_iff_lt_mul hD0, hT, hD, Nat.add_mul, Nat.mul_add]
  have e : g * (h * BB) = g * h * BB := (Nat.mul_assoc _ _ _).symm
  rw [e]
  omega

theorem guess_start {h nx u T D : Nat} (hD : D = h * BB + nx) (hh : 0 < h) (hu : u < BB) : (T * BB + u) / D ≤ T / h := by
  have hB := BB_pos
  have hD0 : 0 < D := by rw [hD]; have := Nat.mul_pos hh hB; omega
  rw [Nat.le_div_iff_mul_le hh]
  have h1 : (T * BB + u) / D * D ≤ T * BB + u := Nat.div_mul_le_self _ _
  have h2 : (T * BB + u) / D * h * BB ≤ (T * BB + u) / D * D := by rw [Nat.mul_assoc]; exact Nat.mul_le_mul_left _ (by omega)
  have h3 : (T * BB + u) / D * h * BB < (T + 1) * BB := by rw [Nat.add_mul, Nat.one_mul]; omega
  have := Nat.lt_of_mul_lt_mul_right h3
  omega

/-- When the rest is no digit any more, the guess is one. -/
theorem guess_break {g r h T : Nat} (hT : T = g * h + r) (hr : BB ≤ r) (hb : T ≤ h * BB + (BB - 1)) : g < BB := by
  have hB := BB_pos
  have h1 : g * h < BB * h := by rw [Nat.mul_comm BB h]; omega
  exact Nat.lt_of_mul_lt_mul_right h1

/-- What is left when the guess is taken off: low digits N of n digits, o the digits that were there, c what is carried, u the top digit. -/
theorem sub_sign {N o c u f V P M : Nat} (h : N + f * V = o + M * c) (hP : P = o + M * u) (hN : N < M) : (u < c ↔ P < f * V) ∧ (¬ u < c → P - f * V = N + M * (u - c)) := by
  refine ⟨?_, ?_⟩
  · constructor
    · intro hlt
      have : M * (u + 1) ≤ M * c := Nat.mul_le_mul_left _ hlt
      rw [Nat.mul_add, Nat.mul_one] at this
      omega
    · intro hlt
      rcases Nat.lt_or_ge u c with h1 | h1
      · exact h1
      · have : M * c ≤ M * u := Nat.mul_le_mul_left _ h1
        omega
  · intro hge
    have h1 : M * u = M * c + M * (u - c) := by rw [← Nat.mul_add]; congr 1; omega
    omega

/-- The guess was the quotient: what is left is the remainder. -/
theorem rest_right {N o c u V P M : Nat} (h : N + P / V * V = o + M * c) (hP : P = o + M * u) (hN : N < M) (hV : 0 < V) (hVM : V ≤ M) : ¬ u < c ∧ N = P % V := by
  have hs := sub_sign h hP hN
  have h1 : P / V * V ≤ P := Nat.div_mul_le_self _ _
  have h2 : ¬ u < c := by rw [hs.1]; omega
  refine ⟨h2, ?_⟩
  have h3 := hs.2 h2
  have h4 := Nat.div_add_mod P V
  rw [Nat.mul_comm] at h4
  have h5 := Nat.mod_lt P hV
  have h6 : u - c = 0 := by
    rcases Nat.eq_zero_or_pos (u - c) with h0 | h0
    · exact h0
    · have : M * 1 ≤ M * (u - c) := Nat.mul_le_mul_left _ h0
      omega
  rw [h6, Nat.mul_zero] at h3
  omega

/-- The guess was one too large: the divisor added back, modulo the top, gives the remainder. -/
theorem rest_back {N o c u V P M : Nat} (h : N + (P / V + 1) * V = o + M * c) (hP : P = o + M * u) (hN : N < M) (hV : 0 < V) (hVM : V ≤ M) : u < c ∧ (N + V) % M = P % V := by
  have hs := sub_sign h hP hN
  have h4 := Nat.div_add_mod P V
  rw [Nat.mul_comm] at h4
  have h5 := Nat.mod_lt P hV
  rw [Nat.add_mul, Nat.one_mul] at hs
  have h2 : u < c := by rw [hs.1]; omega
  refine ⟨h2, ?_⟩
  have h1 : M * c = M * u + M * (c - u) := by rw [← Nat.mul_add]; congr 1; omega
  rw [Nat.add_mul, Nat.one_mul] at h
  have h6 : c - u = 1 := by
    rcases Nat.lt_or_ge 1 (c - u) with h0 | h0
    · have : M * 2 ≤ M * (c - u) := Nat.mul_le_mul_left _ h0
      omega
    · omega
  rw [h6, Nat.mul_one] at h1
  have h7 : N + V = P % V + M := by omega
  rw [h7, Nat.add_mod_right, Nat.mod_eq_of_lt (by omega)]
theorem win_of_add (xs : List Nat) (k m : Nat) : win xs 0 (k + m) = win xs 0 k + BB ^ k * win xs k m := by
  rw [win_add, Nat.zero_add]

/-- One digit of the quotient: P is the window, q its quotient, the window of ys its remainder. -/
theorem long_step {V X k n q : Nat} {xs ys : List Nat} (H : Nat) (hdx : Dig xs) (hV : 0 < V) (hlt : win xs 0 (k + 1 + n) < V * BB ^ (k + 1)) (hs : V * BB ^ (k + 1) * H + win xs 0 (k + 1 + n) = X)
    (hq : q = win xs k (n + 1) / V) (hr : win ys k n = win xs k (n + 1) % V) (hlow : win ys 0 k = win xs 0 k) :
    win xs k (n + 1) < V * BB ∧ q < BB ∧ win ys 0 (k + n) < V * BB ^ k ∧ V * BB ^ k * (q + BB * H) + win ys 0 (k + n) = X := by
  have e0 : k + 1 + n = k + (n + 1) := by omega
  rw [e0, win_of_add] at hlt hs
  have hB := BB_pos
  have hp : 0 < BB ^ k := Nat.pow_pos hB
  have h1 : win xs k (n + 1) < V * BB := by
    have : BB ^ k * win xs k (n + 1) < BB ^ k * (V * BB) := by
      rw [Nat.pow_succ] at hlt
      have e : BB ^ k * (V * BB) = V * (BB ^ k * BB) := by rw [← Nat.mul_assoc, Nat.mul_comm (BB ^ k) V, Nat.mul_assoc]
      omega
    exact Nat.lt_of_mul_lt_mul_left this
  have h2 : q < BB := by rw [hq, Nat.div_lt_iff_lt_mul hV, Nat.mul_comm]; exact h1
  have h3 := win_lt hdx 0 k
  have h4 := Nat.mod_lt (win xs k (n + 1)) hV
  have h5 := Nat.div_add_mod (win xs k (n + 1)) V
  rw [← hq] at h5
  refine ⟨h1, h2, ?_, ?_⟩
  · rw [win_of_add, hlow, hr]
    have : BB ^ k * (win xs k (n + 1) % V + 1) ≤ BB ^ k * V := Nat.mul_le_mul_left _ h4
    rw [Nat.mul_add, Nat.mul_one, Nat.mul_comm _ V] at this
    omega
  · rw [win_of_add, hlow, hr]
    have e1 : V * BB ^ k * (q + BB * H) = BB ^ k * (V * q) + V * BB ^ (k + 1) * H := by
      rw [Nat.mul_add, Nat.pow_succ]
      congr 1
      · rw [Nat.mul_comm V (BB ^ k), Nat.mul_assoc]
      · rw [← Nat.mul_assoc, ← Nat.mul_assoc]
    have e2 : BB ^ k * (V * q) + BB ^ k * (win xs k (n + 1) % V) = BB ^ k * win xs k (n + 1) := by rw [← Nat.mul_add, h5]
    omega

theorem long_end {V X Q r a b S : Nat} (hV : V = b * S) (hX : X = a * S) (hS : 0 < S) (hb : 0 < b) (h : V * Q + r = X) (hr : r < V) : Q = a / b ∧ r / S = a % b := by
  have hV0 : 0 < V := by rw [hV]; exact Nat.mul_pos hb hS
  have h1 : X / V = Q := by rw [← h, Nat.mul_add_div hV0, Nat.div_eq_of_lt hr, Nat.add_zero]
  have h2 : X % V = r := by rw [← h, Nat.mul_add_mod, Nat.mod_eq_of_lt hr]
  refine ⟨by rw [← h1, hV, hX, Nat.mul_div_mul_right _ _ hS], ?_⟩
  rw [← h2, hV, hX, Nat.mul_mod_mul_right, Nat.mul_div_cancel _ hS]

/-- A divisor shifted until its top bit is set leaves room for the whole quotient. -/
theorem long_start {a b S la n s : Nat} (hS : S = 2 ^ s) (hs : s ≤ 31) (ha : a < BB ^ la) (hb : BB ^ n ≤ b * S * 2) (hn : n ≤ la) : a * S < b * S * BB ^ (la - n + 1) := by
  have h1 : S ≤ 2147483648 := by rw [hS]; exact Nat.le_trans (Nat.pow_le_pow_right (by omega) hs) (by decide)
  have hS0 : 0 < S := by rw [hS]; exact Nat.pow_pos (by omega)
  have h2 : a * S < BB ^ la * S := Nat.mul_lt_mul_of_pos_right ha hS0
  have h3 : BB ^ la * S ≤ BB ^ la * 2147483648 := Nat.mul_le_mul_left _ h1
  have h4 : BB ^ n * BB ^ (la - n + 1) ≤ b * S * 2 * BB ^ (la - n + 1) := Nat.mul_le_mul_right _ hb
  rw [← Nat.pow_add, show n + (la - n + 1) = la + 1 by omega, Nat.pow_succ, Nat.mul_assoc (b * S) 2, Nat.mul_comm 2, ← Nat.mul_assoc, BB_eq] at h4
  rw [BB_eq] at h2 h3 ⊢
  omega
end Go.Proofs.Ytehoafpnmfkniaa
