/-
  What long division is built on: windows of digits, and that the guess from the top digits is the quotient or one more.
  The pieces of long division.
-/
import Derived.Test.YtgjkgmlcfieodaaRows2
import Derived.Test.YtgjkgmlcfieodaaDivM
import Derived.Test.YtgjkgmlcfieodaaDig
set_option linter.unusedVariables false
set_option linter.unusedSimpArgs false
namespace Go.Proofs.Ytgjkgmlcfieodaa
open Go.RowKit

/-- The value of k digits from off on. -/
def win (xs : List Nat) (off : Nat) : Nat → Nat
  | 0 => 0
  | k + 1 => win xs off k + BB ^ k * xs.getD (off + k) 0

theorem win_congr {xs ys : List Nat} {off : Nat} : ∀ {k : Nat}, (∀ j, off ≤ j → j < off + k → xs.getD j 0 = ys.getD j 0) → win xs off k = win ys off k
  | 0, _ => rfl
  | k + 1, h => by
    rw [win, win, win_congr fun j h1 h2 => h j h1 (by omega), h (off + k) (by omega) (by omega)]
theorem win_lt {xs : List Nat} (h : Dig xs) (off : Nat) : ∀ k : Nat, win xs off k < BB ^ k
  | 0 => by simp [win]
  | k + 1 => by
    have h1 := win_lt h off k
    have h2 : BB ^ k * (xs.getD (off + k) 0 + 1) ≤ BB ^ k * BB := Nat.mul_le_mul_left _ (h.getD _)
    rw [Nat.mul_add, Nat.mul_one] at h2
    rw [win, Nat.pow_succ]
    omega
theorem win_zero (xs : List Nat) : ∀ k : Nat, win xs 0 k = val (xs.take k)
  | 0 => by simp [win, val]
  | k + 1 => by rw [win, win_zero xs k, val_take_any, Nat.zero_add]
theorem win_add (xs : List Nat) (off k : Nat) : ∀ m : Nat, win xs off (k + m) = win xs off k + BB ^ k * win xs (off + k) m
  | 0 => by simp [win]
  | m + 1 => by
    rw [← Nat.add_assoc, win, win_add xs off k m, win, Nat.mul_add, Nat.pow_add, Nat.add_assoc off k m, Nat.mul_assoc, Nat.add_assoc]

theorem subp_arith (p d v u B O Nw c bo cn bo' f low x : Nat) (h : Nw + f * v = O + p * (c + bo)) (h1 : c + x * f = low + B * cn) (h2 : d + low + bo = u + B * bo') :
    (Nw + p * d) + f * (v + p * x) = (O + p * u) + p * B * (cn + bo') := by
  have e1 : f * (v + p * x) = f * v + p * (x * f) := by rw [Nat.mul_add]; congr 1; rw [← Nat.mul_assoc, Nat.mul_comm f p, Nat.mul_assoc, Nat.mul_comm f x]
  have e2 : p * B * (cn + bo') = p * (B * cn) + p * (B * bo') := by rw [Nat.mul_assoc, Nat.mul_add, Nat.mul_add]
  have e3 : p * c + p * (x * f) = p * low + p * (B * cn) := by rw [← Nat.mul_add, ← Nat.mul_add, h1]
  have e4 : p * d + p * low + p * bo = p * u + p * (B * bo') := by rw [← Nat.mul_add, ← Nat.mul_add, ← Nat.mul_add, h2]
  rw [Nat.mul_add] at h
  omega

theorem addp_arith (p d v u B O Nw c cn x : Nat) (h : Nw + p * c = O + v) (h1 : c + u + x = d + B * cn) :
    (Nw + p * d) + p * B * cn = (O + p * u) + (v + p * x) := by
  have e2 : p * B * cn = p * (B * cn) := Nat.mul_assoc _ _ _
  have e3 : p * c + p * u + p * x = p * d + p * (B * cn) := by rw [← Nat.mul_add, ← Nat.mul_add, ← Nat.mul_add, h1]
  omega

theorem shl_arith (p t c x s A V B : Nat) (h : V + p * c = A * s) (ht : t = c + x * s) : (V + p * (t % B)) + p * B * (t / B) = (A + p * x) * s := by
  have h1 : p * (t % B) + p * B * (t / B) = p * t := by rw [Nat.mul_assoc, ← Nat.mul_add, Nat.mod_add_div]
  have h2 : p * t = p * c + p * x * s := by rw [ht, Nat.mul_add, Nat.mul_assoc]
  rw [Nat.add_mul]
  omega

/-- The value of the top digits decides: the guess from the three top digits of the dividend and the two top digits of the divisor. -/
def guessOf (t D : Nat) : Nat := min (t / D) (BB - 1)

/-- KNUTH's THEOREM: the guess is the quotient or one more. P = t m + p, V = D m + v with p, v < m. -/
theorem guess_ge {P V t D m p v : Nat} (hP : P = t * m + p) (hV : V = D * m + v) (hp : p < m) (hD : 0 < D) (hq : P < V * BB) : P / V ≤ guessOf t D := by
  have hm : 0 < m := by omega
  have hV0 : 0 < V := by rw [hV]; have := Nat.mul_pos hD hm; omega
  unfold guessOf
  rw [Nat.le_min]
  constructor
  · rw [Nat.le_div_iff_mul_le hD]
    have h1 : P / V * V ≤ P := Nat.div_mul_le_self P V
    have h2 : P / V * D * m ≤ P / V * V := by rw [hV, Nat.mul_assoc]; exact Nat.mul_le_mul_left _ (by omega)
    have h3 : P / V * D * m < (t + 1) * m := by rw [Nat.add_mul, Nat.one_mul]; omega
    have := Nat.lt_of_mul_lt_mul_right h3
    omega
  · have : P / V < BB := by rw [Nat.div_lt_iff_lt_mul hV0, Nat.mul_comm]; exact hq
    omega

theorem guess_le {P V t D m p v : Nat} (hP : P = t * m + p) (hV : V = D * m + v) (hp : p < m) (hv : v < m) (hD : BB ≤ D) : guessOf t D ≤ P / V + 1 := by
  have hm : 0 < m := by omega
  have hB := BB_pos
  have hV0 : 0 < V := by rw [hV]; have := Nat.mul_pos (show 0 < D by omega) hm; omega
  by_cases h0 : guessOf t D = 0
  · rw [h0]; exact Nat.zero_le _
  obtain ⟨g, hg⟩ : ∃ g, guessOf t D = g + 1 := ⟨guessOf t D - 1, by omega⟩
  rw [hg]
  have hle : g ≤ P / V := by
    rw [Nat.le_div_iff_mul_le hV0]
    have h1 : (g + 1) * D ≤ t := by
      have : g + 1 ≤ t / D := by rw [← hg]; exact Nat.min_le_left _ _
      exact (Nat.le_div_iff_mul_le (by omega)).1 this
    have h2 : g + 1 ≤ BB - 1 := by rw [← hg]; exact Nat.min_le_right _ _
    have h3 : (g + 1) * D * m ≤ t * m := Nat.mul_le_mul_right _ h1
    have h4 : g * V ≤ g * ((D + 1) * m) := Nat.mul_le_mul_left _ (by rw [hV, Nat.add_mul]; omega)
    have h5 : g * ((D + 1) * m) ≤ (g + 1) * D * m := by
      rw [← Nat.mul_assoc]
      refine Nat.mul_le_mul_right _ ?_
      rw [Nat.mul_add, Nat.add_mul]
      omega
    omega
  exact Nat.succ_le_succ hle

/-- What one round of the loop sees: the guess is too large exactly if the test says so. -/
theorem guess_test {g r h nx u T D : Nat} (hT : T = g * h + r) (hD : D = h * BB + nx) (hD0 : 0 < D) : g * nx > r * BB + u ↔ (T * BB + u) / D < g := by
  rw [Nat.div_lt_iff_lt_mul hD0, hT, hD, Nat.add_mul, Nat.mul_add]
  have e : g * (h * BB) = g * h * BB := (Nat.mul_assoc _ _ _).symm
  rw [e]
  omega

theorem guess_start {h nx u T D : Nat} (hD : D = h * BB + nx) (hh : 0 < h) (hu : u < BB) : (T * BB + u) / D ≤ T / h := by
  have hB := BB_pos
  have hD0 : 0 < D := by rw [hD]; have := Nat.mul_pos hh hB; omega
  rw [Nat.le_div_iff_mul_le hh]
  have h1 : (T * BB + u) / D * D ≤ T * BB + u := Nat.div_mul_le_self _ _
  have h2 : (T * BB + u) / D * h * BB ≤ (T * BB + u) / D * D := by rw [Nat.mul_assoc]; exact Nat.mul_le_mul_left _ (by omega)
  have h3 : (T * BB + u) / D * h * BB < (T + 1) * BB := by rw [Nat.add_mul, Nat.one_mul]; omega
  have := Nat.lt_of_mul_lt_mul_right h3
  omega

/-- When the rest is no digit any more, the guess is one. -/
theorem guess_break {g r h T : Nat} (hT : T = g * h + r) (hr : BB ≤ r) (hb : T ≤ h * BB + (BB - 1)) : g < BB := by
  have hB := BB_pos
  have h1 : g * h < BB * h := by rw [Nat.mul_comm BB h]; omega
  exact Nat.lt_of_mul_lt_mul_right h1

/-- What is left when the guess is taken off: low digits N of n digits, o the digits that were there, c what is carried, u the top digit. -/
theorem sub_sign {N o c u f V P M : Nat} (h : N + f * V = o + M * c) (hP : P = o + M * u) (hN : N < M) : (u < c ↔ P < f * V) ∧ (¬ u < c → P - f * V = N + M * (u - c)) := by
  refine ⟨?_, ?_⟩
  · constructor
    · intro hlt
      have : M * (u + 1) ≤ M * c := Nat.mul_le_mul_left _ hlt
      rw [Nat.mul_add, Nat.mul_one] at this
      omega
    · intro hlt
      rcases Nat.lt_or_ge u c with h1 | h1
      · exact h1
      · have : M * c ≤ M * u := Nat.mul_le_mul_left _ h1
        omega
  · intro hge
    have h1 : M * u = M * c + M * (u - c) := by rw [← Nat.mul_add]; congr 1; omega
    omega

/-- The guess was the quotient: what is left is the remainder. -/
theorem rest_right {N o c u V P M : Nat} (h : N + P / V * V = o + M * c) (hP : P = o + M * u) (hN : N < M) (hV : 0 < V) (hVM : V ≤ M) : ¬ u < c ∧ N = P % V := by
  have hs := sub_sign h hP hN
  have h1 : P / V * V ≤ P := Nat.div_mul_le_self _ _
  have h2 : ¬ u < c := by rw [hs.1]; omega
  refine ⟨h2, ?_⟩
  have h3 := hs.2 h2
  have h4 := Nat.div_add_mod P V
  rw [Nat.mul_comm] at h4
  have h5 := Nat.mod_lt P hV
  have h6 : u - c = 0 := by
    rcases Nat.eq_zero_or_pos (u - c) with h0 | h0
    · exact h0
    · have : M * 1 ≤ M * (u - c) := Nat.mul_le_mul_left _ h0
      omega
  rw [h6, Nat.mul_zero] at h3
  omega

/-- The guess was one too large: the divisor added back, modulo the top, gives the remainder. -/
theorem rest_back {N o c u V P M : Nat} (h : N + (P / V + 1) * V = o + M * c) (hP : P = o + M * u) (hN : N < M) (hV : 0 < V) (hVM : V ≤ M) : u < c ∧ (N + V) % M = P % V := by
  have hs := sub_sign h hP hN
  have h4 := Nat.div_add_mod P V
  rw [Nat.mul_comm] at h4
  have h5 := Nat.mod_lt P hV
  rw [Nat.add_mul, Nat.one_mul] at hs
  have h2 : u < c := by rw [hs.1]; omega
  refine ⟨h2, ?_⟩
  have h1 : M * c = M * u + M * (c - u) := by rw [← Nat.mul_add]; congr 1; omega
  rw [Nat.add_mul, Nat.one_mul] at h
  have h6 : c - u = 1 := by
    rcases Nat.lt_or_ge 1 (c - u) with h0 | h0
    · have : M * 2 ≤ M * (c - u) := Nat.mul_le_mul_left _ h0
      omega
    · omega
  rw [h6, Nat.mul_one] at h1
  have h7 : N + V = P % V + M := by omega
  rw [h7, Nat.add_mod_right, Nat.mod_eq_of_lt (by omega)]
theorem win_of_add (xs : List Nat) (k m : Nat) : win xs 0 (k + m) = win xs 0 k + BB ^ k * win xs k m := by
  rw [win_add, Nat.zero_add]

/-- One digit of the quotient: P is the window, q its quotient, the window of ys its remainder. -/
theorem long_step {V X k n q : Nat} {xs ys : List Nat} (H : Nat) (hdx : Dig xs) (hV : 0 < V) (hlt : win xs 0 (k + 1 + n) < V * BB ^ (k + 1)) (hs : V * BB ^ (k + 1) * H + win xs 0 (k + 1 + n) = X)
    (hq : q = win xs k (n + 1) / V) (hr : win ys k n = win xs k (n + 1) % V) (hlow : win ys 0 k = win xs 0 k) :
    win xs k (n + 1) < V * BB ∧ q < BB ∧ win ys 0 (k + n) < V * BB ^ k ∧ V * BB ^ k * (q + BB * H) + win ys 0 (k + n) = X := by
  have e0 : k + 1 + n = k + (n + 1) := by omega
  rw [e0, win_of_add] at hlt hs
  have hB := BB_pos
  have hp : 0 < BB ^ k := Nat.pow_pos hB
  have h1 : win xs k (n + 1) < V * BB := by
    have : BB ^ k * win xs k (n + 1) < BB ^ k * (V * BB) := by
      rw [Nat.pow_succ] at hlt
      have e : BB ^ k * (V * BB) = V * (BB ^ k * BB) := by rw [← Nat.mul_assoc, Nat.mul_comm (BB ^ k) V, Nat.mul_assoc]
      omega
    exact Nat.lt_of_mul_lt_mul_left this
  have h2 : q < BB := by rw [hq, Nat.div_lt_iff_lt_mul hV, Nat.mul_comm]; exact h1
  have h3 := win_lt hdx 0 k
  have h4 := Nat.mod_lt (win xs k (n + 1)) hV
  have h5 := Nat.div_add_mod (win xs k (n + 1)) V
  rw [← hq] at h5
  refine ⟨h1, h2, ?_, ?_⟩
  · rw [win_of_add, hlow, hr]
    have : BB ^ k * (win xs k (n + 1) % V + 1) ≤ BB ^ k * V := Nat.mul_le_mul_left _ h4
    rw [Nat.mul_add, Nat.mul_one, Nat.mul_comm _ V] at this
    omega
  · rw [win_of_add, hlow, hr]
    have e1 : V * BB ^ k * (q + BB * H) = BB ^ k * (V * q) + V * BB ^ (k + 1) * H := by
      rw [Nat.mul_add, Nat.pow_succ]
      congr 1
      · rw [Nat.mul_comm V (BB ^ k), Nat.mul_assoc]
      · rw [← Nat.mul_assoc, ← Nat.mul_assoc]
    have e2 : BB ^ k * (V * q) + BB ^ k * (win xs k (n + 1) % V) = BB ^ k * win xs k (n + 1) := by rw [← Nat.mul_add, h5]
    omega

theorem long_end {V X Q r a b S : Nat} (hV : V = b * S) (hX : X = a * S) (hS : 0 < S) (hb : 0 < b) (h : V * Q + r = X) (hr : r < V) : Q = a / b ∧ r / S = a % b := by
  have hV0 : 0 < V := by rw [hV]; exact Nat.mul_pos hb hS
  have h1 : X / V = Q := by rw [← h, Nat.mul_add_div hV0, Nat.div_eq_of_lt hr, Nat.add_zero]
  have h2 : X % V = r := by rw [← h, Nat.mul_add_mod, Nat.mod_eq_of_lt hr]
  refine ⟨by rw [← h1, hV, hX, Nat.mul_div_mul_right _ _ hS], ?_⟩
  rw [← h2, hV, hX, Nat.mul_mod_mul_right, Nat.mul_div_cancel _ hS]

/-- A divisor shifted until its top bit is set leaves room for the whole quotient. -/
theorem long_start {a b S la n s : Nat} (hS : S = 2 ^ s) (hs : s ≤ 31) (ha : a < BB ^ la) (hb : BB ^ n ≤ b * S * 2) (hn : n ≤ la) : a * S < b * S * BB ^ (la - n + 1) := by
  have h1 : S ≤ 2147483648 := by rw [hS]; exact Nat.le_trans (Nat.pow_le_pow_right (by omega) hs) (by decide)
  have hS0 : 0 < S := by rw [hS]; exact Nat.pow_pos (by omega)
  have h2 : a * S < BB ^ la * S := Nat.mul_lt_mul_of_pos_right ha hS0
  have h3 : BB ^ la * S ≤ BB ^ la * 2147483648 := Nat.mul_le_mul_left _ h1
  have h4 : BB ^ n * BB ^ (la - n + 1) ≤ b * S * 2 * BB ^ (la - n + 1) := Nat.mul_le_mul_right _ hb
  rw [← Nat.pow_add, show n + (la - n + 1) = la + 1 by omega, Nat.pow_succ, Nat.mul_assoc (b * S) 2, Nat.mul_comm 2, ← Nat.mul_assoc, BB_eq] at h4
  rw [BB_eq] at h2 h3 ⊢
  omega

/-- A row of its own is handed back. -/
def RetS1 (w : World) (v m : Nat) (e : Ending) (w' : World) : Prop :=
  ∃ xs, e = .returned (.slice (some ⟨w.heap.size, 0, none⟩) m m) ∧ Row w' w.heap.size xs ∧ xs.length = m ∧ Dig xs ∧ val xs = v ∧ Below w.heap.size w w'

def ShlI (w wr : World) (N k c V : Nat) (xs : List Nat) : Prop :=
  Row wr w.heap.size (xs ++ List.replicate (N - k) 0) ∧ xs.length = k ∧ Dig xs ∧ val xs + BB ^ k * c = V ∧ Below w.heap.size w wr

theorem shl_step {w wr : World} {N k c x t S : Nat} {ds xs : List Nat} (h : ShlI w wr N k c (val (ds.take k) * S) xs) (hk : k < N) (hx : x = ds.getD k 0) (ht : t = c + x * S) {v : Int} (hv : v = (t % 4294967296 : Nat)) :
    ShlI w (wr.setCell ⟨w.heap.size, k, none⟩ (.int .u32 v)) N (k + 1) (t / 4294967296) (val (ds.take (k + 1)) * S) (xs ++ [t % 4294967296]) := by
  obtain ⟨h1, h2, h3, h4, h5⟩ := h
  subst hv hx
  refine ⟨?_, by simp [h2], h3.append (Dig.cons (by rw [BB_eq]; omega) Dig.nil), ?_, h5.setCell (Nat.le_refl _) _⟩
  · have e : N - k = (N - (k + 1)) + 1 := by omega
    rw [e] at h1
    have := h1.set k (t % 4294967296)
    rwa [← h2, set_zeros, h2] at this
  · rw [val_snoc, h2, val_take_any, Nat.pow_succ]
    exact shl_arith _ _ _ _ _ _ _ _ h4 ht

theorem shl_last {w wr : World} {n c V : Nat} {xs : List Nat} (h : ShlI w wr (n + 1) n c V xs) {v : Int} (hv : v = (c : Nat)) (hc : c < 4294967296) :
    Row (wr.setCell ⟨w.heap.size, n, none⟩ (.int .u32 v)) w.heap.size (xs ++ [c]) ∧ (xs ++ [c]).length = n + 1 ∧ Dig (xs ++ [c]) ∧ val (xs ++ [c]) = V ∧ Below w.heap.size w (wr.setCell ⟨w.heap.size, n, none⟩ (.int .u32 v)) := by
  obtain ⟨h1, h2, h3, h4, h5⟩ := h
  subst hv
  refine ⟨?_, by simp [h2], h3.append (Dig.cons (by rw [BB_eq]; exact hc) Dig.nil), by rw [val_snoc, h2]; exact h4, h5.setCell (Nat.le_refl _) _⟩
  have e : n + 1 - n = 0 + 1 := by omega
  rw [e] at h1
  have := h1.set n c
  rw [← h2, set_zeros] at this
  rw [h2] at this
  simpa using this

theorem or_shl (cy x s : Nat) (hc : cy < 2 ^ s) (hx : x < 4294967296) (hs : s ≤ 31) : bits .or .u64 (cy : Int) (IntKind.u64.wrap ((x : Int) * 2 ^ s)) = ((cy + x * 2 ^ s : Nat) : Int) := by
  have h1 : 2 ^ s ≤ 2147483648 := Nat.le_trans (Nat.pow_le_pow_right (by omega) hs) (by decide)
  have h2 : x * 2 ^ s ≤ 4294967295 * 2147483648 := Nat.mul_le_mul (by omega) h1
  have e : (x : Int) * 2 ^ s = ((x * 2 ^ s : Nat) : Int) := by rw [Int.natCast_mul, Int.natCast_pow]; rfl
  have h3 := Nat.mul_mod_left x (2 ^ s)
  have h4 : cy < 18446744073709551616 := by omega
  rw [e]
  generalize x * 2 ^ s = y at h2 h3 ⊢
  rw [u64_in' _ (by omega), u64_or_nat _ _ h4 (by omega), Nat.or_comm, nat_join s _ _ h3 hc, Nat.add_comm]

set_option maxHeartbeats 1000000 in
set_option maxRecDepth 100000 in
theorem shiftLeft_any (A : Option Addr) (n c s : Nat) (ds : List Nat) (w : World) (h : Dgs w w.heap.size A n ds) (hs : n ≤ 1000000) (hs31 : s ≤ 31) :
    Calls Try.prog 99 #[.slice A n c, .int .i64 s] w (RetS1 w (val ds * 2 ^ s) (n + 1)) := by
  have hmk := run_make_row' (P := Try.prog) 22 69 (.int .u32 0) 4 Try.underlying22 u32_info rfl .i64 .i64 (n + 1) (by omega) (by omega)
  have ec : ((n + 1 : Nat) : Int) = (n : Int) + 1 := by omega
  rw [ec] at hmk
  clear ec
  obtain ⟨S, HS⟩ : ∃ S : Nat, Hid (S = 2 ^ s) := ⟨2 ^ s, rfl⟩
  rw [← HS.out]
  have H0 : ShlI w (w.alloc (.cells (madeCells #[.int .u32 0] (n + 1)) 69)) (n + 1) 0 0 (val (ds.take 0) * S) [] := ⟨by simpa using Row.made w (n + 1), rfl, Dig.nil, by simp [val], bnew _ _⟩
  have HL := Lib.hid h.len
  have hS0 : 0 < S := by rw [HS.out]; exact Nat.pow_pos (by omega)
  have hS1 : S ≤ 2147483648 := by rw [HS.out]; exact Nat.le_trans (Nat.pow_le_pow_right (by omega) hs31) (by decide)
  have HS0 := Lib.hid hS0
  have HS1 := Lib.hid hS1
  clear hS0 hS1
  go_enter Try.func99, Try.ntmps99
  go_wp2
  clear hmk
  go_loopw [6, 15] (fun cv i wr => ∃ (k cy : Nat) (xs : List Nat), k ≤ n ∧ cy < S ∧ i = .int .i64 k ∧ cv = .int .u64 cy ∧ ShlI w wr (n + 1) k cy (val (ds.take k) * S) xs) (fun _ i _ => n - (intOf i).toNat)
  case atStart => exact ⟨0, 0, [], Nat.zero_le _, HS0.out, rfl, rfl, H0⟩
  case round =>
    clear H0
    obtain ⟨k, cy, xs, hk, hcy, rfl, rfl, HI⟩ := hrel
    have h1 := HI.1
    have hB := HI.2.2.2.2
    have hlen : (xs ++ List.replicate (n + 1 - k) 0).length = n + 1 := by simp [HI.2.1]; omega
    have hstore := h1.cell (j := k) (by rw [hlen]; omega)
    have hfr := h1.frozen k
    have hda := h.below hB
    by_cases hkn : k < n
    · obtain ⟨b, off, hA, _, hcell⟩ := hda.at_ (by omega)
      subst hA
      have hx := hcell k hkn
      have hxl := h.dig.getD k
      rw [BB_eq] at hxl
      obtain ⟨x, HX⟩ : ∃ x, Hid (x = ds.getD k 0) := ⟨_, rfl⟩
      rw [← HX.out] at hx hxl
      have i0 : (0 : Int) ≤ (k : Int) := by omega
      have i1 : (k : Int) < (n : Int) := by omega
      have i2 : (k : Int) < (n : Int) + 1 := by omega
      clear hcell hda h1 hlen
      obtain ⟨t, HT⟩ : ∃ t : Nat, Hid (t = cy + x * S) := ⟨_, rfl⟩
      have hor : bits .or .u64 (cy : Int) (IntKind.u64.wrap ((x : Int) * 2 ^ s)) = (t : Int) := by
        rw [HT.out, HS.out]
        exact or_shl cy x s (by rw [← HS.out]; exact hcy) hxl hs31
      have htl : t / 4294967296 < S := by
        rw [HT.out, Nat.div_lt_iff_lt_mul (by omega)]
        have : (x + 1) * S ≤ 4294967296 * S := Nat.mul_le_mul_right _ hxl
        rw [Nat.add_mul, Nat.one_mul] at this
        rw [Nat.mul_comm S]
        omega
      go_wp2
      go_roundw
      case rel => exact ⟨k + 1, t / 4294967296, _, by omega, htl, by go_num, by go_num, shl_step HI (by omega) HX.out HT.out (by omega)⟩
      case measure => simp [intOf]; omega
    · obtain rfl : k = n := by omega
      have i2 : (k : Int) < (k : Int) + 1 := by omega
      have hc32 : cy < 4294967296 := by have := HS1.out; omega
      clear hda h1 hlen
      obtain ⟨f1, f2, f3, f4, f5⟩ := shl_last HI (v := (cy : Int)) rfl hc32
      have F4 := Lib.hid f4
      clear f4
      go_wp2
      go_ret
      exact ⟨_, rfl, f1, f2, f3, by rw [F4.out, List.take_of_length_le (by rw [HL.out]; exact Nat.le_refl _)], f5⟩

theorem getD_set_self {xs : List Nat} {j d : Nat} (h : j < xs.length) : (xs.set j d).getD j 0 = d := by
  simp [List.getD, h]
theorem win_set {ys : List Nat} {off k d : Nat} (h : off + k < ys.length) : win (ys.set (off + k) d) off (k + 1) = win ys off k + BB ^ k * d := by
  rw [win, getD_set_self h, win_congr (ys := ys) fun j _ h2 => getD_set (by omega)]

/-- k digits of the window are turned, cb is still to be taken from above. -/
def SpI (w wr : World) (gr off k cb f : Nat) (xs vs ys : List Nat) : Prop :=
  Row wr gr ys ∧ ys.length = xs.length ∧ Dig ys ∧ (∀ j, j < off ∨ off + k ≤ j → ys.getD j 0 = xs.getD j 0) ∧ win ys off k + f * win vs 0 k = win xs off k + BB ^ k * cb ∧ Only gr w wr

theorem sp_step {w wr : World} {gr off k c bo f u x low cn d bo' : Nat} {xs vs ys : List Nat} (h : SpI w wr gr off k (c + bo) f xs vs ys) (hk : off + k < xs.length) (hu : u = xs.getD (off + k) 0) (hx : x = vs.getD k 0)
    (h1 : c + x * f = low + 4294967296 * cn) (h2 : d + low + bo = u + 4294967296 * bo') (hd : d < 4294967296) {v : Int} (hv : v = (d : Nat)) :
    SpI w (wr.setCell ⟨gr, off + k, none⟩ (.int .u32 v)) gr off (k + 1) (cn + bo') f xs vs (ys.set (off + k) d) := by
  obtain ⟨r1, r2, r3, r4, r5, r6⟩ := h
  subst hv
  refine ⟨r1.set _ _, by simpa using r2, dig_set r3 (by rw [BB_eq]; exact hd), fun j hj => by rw [getD_set (by omega)]; exact r4 j (by omega), ?_, r6.setCell _ _⟩
  rw [win_set (by omega), win, win, ← hu, Nat.zero_add, ← hx, Nat.pow_succ]
  exact subp_arith _ _ _ _ _ _ _ _ _ _ _ _ _ _ r5 h1 h2

/-- k digits of the window are turned, c is carried. -/
def AbI (w wr : World) (gr off k c : Nat) (xs vs ys : List Nat) : Prop :=
  Row wr gr ys ∧ ys.length = xs.length ∧ Dig ys ∧ (∀ j, j < off ∨ off + k ≤ j → ys.getD j 0 = xs.getD j 0) ∧ win ys off k + BB ^ k * c = win xs off k + win vs 0 k ∧ Only gr w wr

theorem ab_step {w wr : World} {gr off k c u x t : Nat} {xs vs ys : List Nat} (h : AbI w wr gr off k c xs vs ys) (hk : off + k < xs.length) (hu : u = xs.getD (off + k) 0) (hx : x = vs.getD k 0) (ht : t = c + u + x) {v : Int} (hv : v = (t % 4294967296 : Nat)) :
    AbI w (wr.setCell ⟨gr, off + k, none⟩ (.int .u32 v)) gr off (k + 1) (t / 4294967296) xs vs (ys.set (off + k) (t % 4294967296)) := by
  obtain ⟨r1, r2, r3, r4, r5, r6⟩ := h
  subst hv
  refine ⟨r1.set _ _, by simpa using r2, dig_set r3 (by rw [BB_eq]; omega), fun j hj => by rw [getD_set (by omega)]; exact r4 j (by omega), ?_, r6.setCell _ _⟩
  rw [win_set (by omega), win, win, ← hu, Nat.zero_add, ← hx, Nat.pow_succ]
  exact addp_arith _ _ _ _ _ _ _ _ _ _ r5 (by rw [BB_eq, ← ht]; omega)

def RetSP (w : World) (gr off n f : Nat) (xs vs : List Nat) (e : Ending) (w' : World) : Prop :=
  ∃ ys cb, e = .returned (.bool (decide (xs.getD (off + n) 0 < cb))) ∧ SpI w w' gr off n cb f xs vs ys
def RetAB (w : World) (gr off n : Nat) (xs vs : List Nat) (e : Ending) (w' : World) : Prop :=
  ∃ ys c, e = .returned (.tuple #[]) ∧ AbI w w' gr off n c xs vs ys

set_option maxHeartbeats 1000000 in
set_option maxRecDepth 100000 in
theorem addBack_any (gr gd off n c c' : Nat) (xs vs : List Nat) (w : World) (hr : Row w gr xs) (hd : Row w gd vs) (hg : gd ≠ gr) (hn : n ≤ vs.length) (hx : off + n < xs.length) (hdx : Dig xs) (hdv : Dig vs) (hs : n ≤ 1000001) :
    Calls Try.prog 102 #[.slice (some ⟨gr, off, none⟩) (n + 1) c, .slice (some ⟨gd, 0, none⟩) n c'] w (RetAB w gr off n xs vs) := by
  have H0 : AbI w w gr off 0 0 xs vs xs := ⟨hr, rfl, hdx, fun _ _ => rfl, by simp [win], Only.refl _ _⟩
  go_enter Try.func102, Try.ntmps102
  go_wp2
  go_loopw [4, 9] (fun cv i wr => ∃ (k cy : Nat) (ys : List Nat), k ≤ n ∧ cy ≤ 1 ∧ i = .int .i64 k ∧ cv = .int .u64 cy ∧ AbI w wr gr off k cy xs vs ys) (fun _ i _ => n - (intOf i).toNat)
  case atStart => exact ⟨0, 0, xs, Nat.zero_le _, Nat.zero_le _, rfl, rfl, H0⟩
  case round =>
    clear H0
    obtain ⟨k, cy, ys, hk, hcy, rfl, rfl, HI⟩ := hrel
    by_cases hkn : k < n
    · have hz := HI.1.cell (j := off + k) (by have := HI.2.1; omega)
      rw [HI.2.2.2.1 (off + k) (Or.inr (Nat.le_refl _))] at hz
      have hfr := HI.1.frozen (off + k)
      have hul := hdx.getD (off + k)
      have hxl := hdv.getD k
      rw [BB_eq] at hul hxl
      have hy := (hd.of_block (HI.2.2.2.2.2.block gd hg)).cell (j := k) (by omega)
      obtain ⟨u, HU⟩ : ∃ u, Hid (u = xs.getD (off + k) 0) := ⟨_, rfl⟩
      obtain ⟨x, HX⟩ : ∃ x, Hid (x = vs.getD k 0) := ⟨_, rfl⟩
      rw [← HU.out] at hz hul
      rw [← HX.out] at hy hxl
      have i0 : (0 : Int) ≤ (k : Int) := by omega
      have i1 : (k : Int) < (n : Int) := by omega
      have i2 : (k : Int) < (n : Int) + 1 := by omega
      go_wp2
      go_roundw
      case rel => exact ⟨k + 1, (cy + u + x) / 4294967296, _, by omega, by omega, by go_num, by go_num, ab_step HI (by omega) HU.out HX.out rfl (by omega)⟩
      case measure => simp [intOf]; omega
    · obtain rfl : k = n := by omega
      go_wp2
      refine bodyPost_ret (v := .tuple #[]) (by simp [results, Try.results102, go_sem]) rfl ?_
      exact ⟨_, _, rfl, HI⟩

set_option maxHeartbeats 1000000 in
set_option maxRecDepth 100000 in
theorem subProduct_any (gr gd off n c c' f : Nat) (xs vs : List Nat) (w : World) (hr : Row w gr xs) (hd : Row w gd vs) (hg : gd ≠ gr) (hn : n ≤ vs.length) (hx : off + n < xs.length) (hdx : Dig xs) (hdv : Dig vs) (hs : n ≤ 1000001) (hf : f < 4294967296) :
    Calls Try.prog 101 #[.slice (some ⟨gr, off, none⟩) (n + 1) c, .slice (some ⟨gd, 0, none⟩) n c', .int .u32 f] w (RetSP w gr off n f xs vs) := by
  have H0 : SpI w w gr off 0 0 f xs vs xs := ⟨hr, rfl, hdx, fun _ _ => rfl, by simp [win], Only.refl _ _⟩
  go_enter Try.func101, Try.ntmps101
  go_wp2
  go_loopw [7, 8, 13] (fun cv bv i wr => ∃ (k cy bo : Nat) (ys : List Nat), k ≤ n ∧ cy < 4294967296 ∧ bo ≤ 1 ∧ i = .int .i64 k ∧ cv = .int .u64 cy ∧ bv = .int .i64 (-(bo : Int)) ∧ SpI w wr gr off k (cy + bo) f xs vs ys) (fun _ _ i _ => n - (intOf i).toNat)
  case atStart => exact ⟨0, 0, 0, xs, Nat.zero_le _, by omega, Nat.zero_le _, rfl, rfl, rfl, H0⟩
  case round =>
    clear H0
    obtain ⟨k, cy, bo, ys, hk, hcy, hbo, rfl, rfl, rfl, HI⟩ := hrel
    have hz := HI.1.cell (j := off + k) (by have := HI.2.1; omega)
    rw [HI.2.2.2.1 (off + k) (Or.inr (Nat.le_refl _))] at hz
    have hul := hdx.getD (off + k)
    rw [BB_eq] at hul
    obtain ⟨u, HU⟩ : ∃ u, Hid (u = xs.getD (off + k) 0) := ⟨_, rfl⟩
    rw [← HU.out] at hz hul
    have i0 : (0 : Int) ≤ (k : Int) := by omega
    have i2 : (k : Int) < (n : Int) + 1 := by omega
    by_cases hkn : k < n
    · have hfr := HI.1.frozen (off + k)
      have hxl := hdv.getD k
      rw [BB_eq] at hxl
      have hy := (hd.of_block (HI.2.2.2.2.2.block gd hg)).cell (j := k) (by omega)
      obtain ⟨x, HX⟩ : ∃ x, Hid (x = vs.getD k 0) := ⟨_, rfl⟩
      rw [← HX.out] at hy hxl
      have i1 : (k : Int) < (n : Int) := by omega
      have hml := mul_le x f hxl hf
      obtain ⟨m, HM⟩ : ∃ m, Hid (m = x * f) := ⟨_, rfl⟩
      rw [← HM.out] at hml
      have hmm : (x : Int) * (f : Int) = (m : Int) := by rw [HM.out]; exact (Int.natCast_mul x f).symm
      go_wp2
      obtain ⟨d, bo', e1, e2, e3, e4, e5⟩ := sub_digit u ((cy + m) % 4294967296) bo hul (by omega) hbo
      go_roundw
      case rel => exact ⟨k + 1, (cy + m) / 4294967296, bo', _, by omega, by omega, e1, by go_num, by go_num, int_val (by rw [← e5]; congr 1; omega), sp_step HI (by omega) HU.out HX.out (by rw [← HM.out]; omega) e2 e3 (by rw [← e4]; congr 1; omega)⟩
      case measure => simp [intOf]; omega
    · obtain rfl : k = n := by omega
      go_wp2
      go_ret
      refine ⟨_, _, ret_bool ?_, HI⟩
      rw [← HU.out]
      exact decide_eq_decide.2 (by omega)

theorem top_or (u2 u1 : Nat) (h2 : u2 < 4294967296) (h1 : u1 < 4294967296) : bits .or .u64 ((u2 : Int) * 4294967296) (u1 : Int) = ((u2 * 4294967296 + u1 : Nat) : Int) := by
  have e : (u2 : Int) * 4294967296 = ((u2 * 4294967296 : Nat) : Int) := by omega
  rw [e, or_halves _ _ h2 h1]

theorem guess_stop {g r h nx u T D : Nat} (hT : T = g * h + r) (hD : D = h * BB + nx) (hD0 : 0 < D) (hge : guessOf (T * BB + u) D ≤ g) (hg : g < BB) (hn : ¬ g * nx > r * BB + u) : g = guessOf (T * BB + u) D := by
  have h1 : ¬ (T * BB + u) / D < g := fun h => hn ((guess_test hT hD hD0).2 h)
  refine Nat.le_antisymm ?_ hge
  unfold guessOf
  rw [Nat.le_min]
  exact ⟨Nat.le_of_not_lt h1, by omega⟩
theorem guess_dec {g r h nx u T D : Nat} (hT : T = g * h + r) (hD : D = h * BB + nx) (hD0 : 0 < D) (hg : BB ≤ g ∨ g * nx > r * BB + u) : guessOf (T * BB + u) D ≤ g - 1 ∧ 0 < g := by
  unfold guessOf
  have hB := BB_pos
  rcases hg with hg | hg
  · have h2 := Nat.min_le_right ((T * BB + u) / D) (BB - 1)
    generalize min ((T * BB + u) / D) (BB - 1) = M at h2 ⊢
    omega
  · have h1 := (guess_test (u := u) hT hD hD0).1 hg
    have h2 := Nat.min_le_left ((T * BB + u) / D) (BB - 1)
    generalize min ((T * BB + u) / D) (BB - 1) = M at h2 ⊢
    generalize (T * BB + u) / D = Q at h1 h2
    clear hg hT hD
    omega
theorem guess_out {g r h nx u T D : Nat} (hT : T = g * h + r) (hD : D = h * BB + nx) (hD0 : 0 < D) (hge : guessOf (T * BB + u) D ≤ g) (hr : BB ≤ r) (hb : T ≤ h * BB + (BB - 1)) (hnx : nx < BB) : g = guessOf (T * BB + u) D ∧ g < BB := by
  have h1 := guess_break hT hr hb
  refine ⟨guess_stop hT hD hD0 hge h1 ?_, h1⟩
  have h2 : g * nx ≤ BB * BB := Nat.mul_le_mul (by omega) (by omega)
  have h3 : BB * BB ≤ r * BB := Nat.mul_le_mul_right _ hr
  omega

theorem ret_u32 {a b : Int} (h : a = b) : Ending.returned (.int .u32 a) = .returned (.int .u32 b) := by rw [h]
def RetG (w : World) (g : Nat) (e : Ending) (w' : World) : Prop := e = .returned (.int .u32 g) ∧ Drew w w'

set_option maxHeartbeats 2000000 in
set_option maxRecDepth 100000 in
theorem guessDigit_any (gr gd off m c c' u2 u1 u0 v1 v0 : Nat) (w : World) (hu2 : w.cell? ⟨gr, off + (m + 2), none⟩ = some (.int .u32 u2)) (hu1 : w.cell? ⟨gr, off + (m + 1), none⟩ = some (.int .u32 u1)) (hu0 : w.cell? ⟨gr, off + m, none⟩ = some (.int .u32 u0))
    (hv1 : w.cell? ⟨gd, m + 1, none⟩ = some (.int .u32 v1)) (hv0 : w.cell? ⟨gd, m, none⟩ = some (.int .u32 v0)) (hm : m ≤ 1000000)
    (b2 : u2 < 4294967296) (b1 : u1 < 4294967296) (b0 : u0 < 4294967296) (bv1 : v1 < 4294967296) (bv0 : v0 < 4294967296) (hv : 0 < v1) (hT : u2 * 4294967296 + u1 ≤ v1 * BB + (BB - 1)) :
    Calls Try.prog 100 #[.slice (some ⟨gr, off, none⟩) (m + 3) c, .slice (some ⟨gd, 0, none⟩) (m + 2) c'] w (RetG w (guessOf ((u2 * 4294967296 + u1) * BB + u0) (v1 * BB + v0))) := by
  have e1 : IntKind.i64.wrap (((m + 2 : Nat) : Int) - 1) = ((m + 1 : Nat) : Int) := by rw [IntWalk.i64_in _ (by omega)]; omega
  have e2 : IntKind.i64.wrap (((m + 2 : Nat) : Int) - 2) = (m : Int) := by rw [IntWalk.i64_in _ (by omega)]; omega
  have e3 : ((m + 1 : Nat) : Int) < ((m + 2 : Nat) : Int) := by omega
  have e4 : (m : Int) < ((m + 2 : Nat) : Int) := by omega
  have e5 : ((m + 2 : Nat) : Int) < ((m + 3 : Nat) : Int) := by omega
  have e6 : ((m + 1 : Nat) : Int) < ((m + 3 : Nat) : Int) := by omega
  have e7 : (m : Int) < ((m + 3 : Nat) : Int) := by omega
  obtain ⟨T, HT⟩ : ∃ T : Nat, Hid (T = u2 * 4294967296 + u1) := ⟨_, rfl⟩
  have hor : bits .or .u64 ((u2 : Int) * 4294967296) (u1 : Int) = (T : Int) := by rw [HT.out]; exact top_or u2 u1 b2 b1
  have hTl : T < 18446744073709551616 := by rw [HT.out]; omega
  rw [← HT.out] at hT ⊢
  obtain ⟨D, HD⟩ : ∃ D : Nat, Hid (D = v1 * BB + v0) := ⟨_, rfl⟩
  have HD0 : Hid (0 < D) := by unfold Hid; rw [HD.out]; have := Nat.mul_pos hv BB_pos; omega
  have HTB := Lib.hid hT
  rw [← HD.out]
  clear hT
  obtain ⟨G, HG⟩ : ∃ G : Nat, Hid (G = guessOf (T * BB + u0) D) := ⟨_, rfl⟩
  rw [← HG.out]
  obtain ⟨g0, HG0⟩ : ∃ g0 : Nat, Hid (g0 = T / v1) := ⟨_, rfl⟩
  obtain ⟨r0, HR0⟩ : ∃ r0 : Nat, Hid (r0 = T % v1) := ⟨_, rfl⟩
  have hg0 : g0 < 18446744073709551616 := by rw [HG0.out]; exact Nat.lt_of_le_of_lt (Nat.div_le_self _ _) hTl
  have hr0 : r0 < 4294967296 := by rw [HR0.out]; exact Nat.lt_trans (Nat.mod_lt _ hv) bv1
  have hq1 : (T : Int) / (v1 : Int) = (g0 : Int) := by rw [HG0.out]; exact (Int.natCast_ediv _ _).symm
  have hq2 : IntKind.u64.wrap (g0 : Int) = (g0 : Int) := u64_in' _ hg0
  have hq3 : (T : Int) % (v1 : Int) = (r0 : Int) := by rw [HR0.out]; exact (Int.natCast_emod _ _).symm
  have HE0 : Hid (T = g0 * v1 + r0) := by unfold Hid; rw [HG0.out, HR0.out, Nat.mul_comm, Nat.div_add_mod]
  have HGE : Hid (G ≤ g0) := by
    unfold Hid
    rw [HG.out, HG0.out]
    exact Nat.le_trans (Nat.min_le_left _ _) (guess_start HD.out hv (by rw [BB_eq]; exact b0))
  have hv' : (0 : Int) < (v1 : Int) := by omega
  have hv'' : ¬ (v1 : Int) = 0 := by omega
  go_enter Try.func100, Try.ntmps100
  go_wp2
  go_quiet (fail)
  go_wp2
  go_quiet (fail)
  go_wp2
  go_quiet (fail)
  go_wp2
  clear e1 e2 e3 e4 e5 e6 e7 hor hq1 hq2 hq3 hu2 hu1 hv1 hv0
  go_loopw [9, 10] (fun gv rv wr => ∃ g r q : Nat, gv = .int .u64 g ∧ rv = .int .u64 r ∧ Hid (T = g * v1 + r) ∧ Hid (G ≤ g) ∧ g < 18446744073709551616 ∧ r < 4294967296 ∧ wr = w.drewN q) (fun gv _ _ => (intOf gv).toNat)
  case atStart => exact ⟨g0, r0, _, rfl, int_val (by rw [HR0.out]; exact (Int.natCast_emod _ _).symm), HE0, HGE, hg0, hr0, by rw [World.drewN_drewN, World.drewN_drewN]⟩
  case round =>
    clear HE0 HGE hg0 hr0
    obtain ⟨g, r, q, rfl, rfl, HE, HGE, hgl, hrl, rfl⟩ := hrel
    have i0 : (0 : Int) ≤ (m : Int) := by omega
    have i1 : (m : Int) < (m : Int) + 3 := by omega
    obtain ⟨R, HR⟩ : ∃ R : Nat, Hid (R = r * 4294967296 + u0) := ⟨_, rfl⟩
    have hR : R < 18446744073709551616 := by rw [HR.out]; omega
    have hor : bits .or .u64 ((r : Int) * 4294967296) (u0 : Int) = (R : Int) := by rw [HR.out]; exact top_or r u0 hrl b0
    by_cases hbig : 4294967296 ≤ g
    · have HDEC := Lib.hid (guess_dec (u := u0) (nx := v0) HE.out HD.out HD0.out (Or.inl hbig))
      obtain ⟨g, rfl⟩ : ∃ g', g = g' + 1 := ⟨g - 1, by omega⟩
      have HE' : Hid (T = g * v1 + (r + v1)) := by have := HE.out; unfold Hid; rw [Nat.add_mul] at this; omega
      have HG' : Hid (G ≤ g) := by unfold Hid; rw [HG.out]; exact HDEC.out.1
      have hd : (4294967296 : Int) ≤ (g : Int) + 1 := by omega
      by_cases hout : 4294967296 ≤ r + v1
      · have HO := Lib.hid (guess_out HE'.out HD.out HD0.out (by rw [← HG.out]; exact HG'.out) hout HTB.out bv0)
        have hd2 : (4294967296 : Int) ≤ (r : Int) + (v1 : Int) := by omega
        have hg32 : g < 4294967296 := HO.out.2
        go_wp2
        go_ret
        exact ⟨ret_u32 (by rw [HG.out, ← HO.out.1]), _, rfl⟩
      · have hd2 : ¬ (4294967296 : Int) ≤ (r : Int) + (v1 : Int) := by omega
        go_wp2
        go_roundw
        case rel => exact ⟨g, r + v1, q, rfl, by go_num, HE', HG', by omega, by omega, rfl⟩
        case measure => simp [intOf]
    · have hml := mul_le g v0 (by omega) bv0
      obtain ⟨gn, HGN⟩ : ∃ gn : Nat, Hid (gn = g * v0) := ⟨_, rfl⟩
      rw [← HGN.out] at hml
      by_cases hgt : R < gn
      · have hd3 : (R : Int) < (gn : Int) := by omega
        have HDEC := Lib.hid (guess_dec (u := u0) (nx := v0) HE.out HD.out HD0.out (Or.inr (by rw [← HGN.out, BB_eq, ← HR.out]; exact hgt)))
        obtain ⟨g, rfl⟩ : ∃ g', g = g' + 1 := ⟨g - 1, by have := HDEC.out.2; omega⟩
        have hmm : ((g : Int) + 1) * (v0 : Int) = (gn : Int) := by rw [HGN.out]; exact (Int.natCast_mul (g + 1) v0).symm
        have HE' : Hid (T = g * v1 + (r + v1)) := by have := HE.out; unfold Hid; rw [Nat.add_mul] at this; omega
        have HG' : Hid (G ≤ g) := by unfold Hid; rw [HG.out]; exact HDEC.out.1
        have hd : ¬ (4294967296 : Int) ≤ (g : Int) + 1 := by omega
        by_cases hout : 4294967296 ≤ r + v1
        · have HO := Lib.hid (guess_out HE'.out HD.out HD0.out (by rw [← HG.out]; exact HG'.out) hout HTB.out bv0)
          have hd2 : (4294967296 : Int) ≤ (r : Int) + (v1 : Int) := by omega
          have hg32 : g < 4294967296 := HO.out.2
          go_wp2
          go_ret
          exact ⟨ret_u32 (by rw [HG.out, ← HO.out.1]), _, rfl⟩
        · have hd2 : ¬ (4294967296 : Int) ≤ (r : Int) + (v1 : Int) := by omega
          go_wp2
          go_roundw
          case rel => exact ⟨g, r + v1, q, rfl, by go_num, HE', HG', by omega, by omega, rfl⟩
          case measure => simp [intOf]
      · have hd3 : ¬ (R : Int) < (gn : Int) := by omega
        have hmm : (g : Int) * (v0 : Int) = (gn : Int) := by rw [HGN.out]; exact (Int.natCast_mul g v0).symm
        have hg32 : g < 4294967296 := by omega
        have hd : ¬ (4294967296 : Int) ≤ (g : Int) := by omega
        have HO := Lib.hid (guess_stop HE.out HD.out HD0.out (by rw [← HG.out]; exact HGE.out) (by rw [BB_eq]; exact hg32) (by rw [← HGN.out, BB_eq, ← HR.out]; exact hgt))
        go_wp2
        go_ret
        exact ⟨ret_u32 (by rw [HG.out, ← HO.out]), _, rfl⟩
end Go.Proofs.Ytgjkgmlcfieodaa

