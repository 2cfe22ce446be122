/-
  Lehmer's method: bits of a number, the greatest common divisor of two words, the leading bits.
  Lehmer's method: the steps that leading bits foresee.
  Lehmer's method: a combination of two numbers, digit by digit.
-/
import Derived.Test.YtkhficmehjglmaaRsmall
import Derived.Test.YtkhficmehjglmaaLongB
import Derived.Test.YtkhficmehjglmaaEucl
import Derived.Test.YtkhficmehjglmaaSt
set_option linter.unusedVariables false
set_option linter.unusedSimpArgs false
namespace Go.Proofs.Ytkhficmehjglmaa
open Go.RowKit

theorem lib_bitLen (x : Nat) (h0 : 0 < x) (hx : x < 18446744073709551616) : Lib.bitLen x = bl x := by
  have hB : 1 ≤ Lib.bitLen x ∧ 2 ^ (Lib.bitLen x - 1) ≤ x ∧ x < 2 ^ Lib.bitLen x := Lib.bitLenAux_bounds 64 x (by omega) (by omega)
  exact (bl_unique (by omega) hB.2.1 hB.2.2).symm
theorem len32_any (x : Nat) (h0 : 0 < x) (hx : x < 4294967296) (w : World) : Calls Try.prog 48 #[.int .u32 x] w fun e w' => e = .returned (.int .i64 (bl x : Nat)) ∧ w = w' := by
  have H := Any.bits_Len32 { bits_lays with } (x : Int) w (by omega) (by omega)
  rw [Int.toNat_natCast, lib_bitLen x h0 (by omega)] at H
  exact H.mono fun e w' ⟨h1, h2⟩ => ⟨h1, h2.symm⟩

theorem ld_or (v d k : Nat) (hv : v < 2 ^ k) (hs : v + d * 2 ^ k < 4611686018427387904) : bits .or .u64 (v : Int) (IntKind.u64.wrap ((d : Int) * 2 ^ k)) = ((v + d * 2 ^ k : Nat) : Int) := by
  have e : (d : Int) * 2 ^ k = ((d * 2 ^ k : Nat) : Int) := by rw [Int.natCast_mul, Int.natCast_pow]; rfl
  have hm := Nat.mul_mod_left d (2 ^ k)
  rw [e, u64_in' _ (by omega)]
  generalize d * 2 ^ k = y at hm hs ⊢
  rw [u64_or_nat _ _ (by omega) (by omega), Nat.or_comm, nat_join k _ _ hm hv, Nat.add_comm]

/-- One more digit above what has been read. -/
theorem ld_step {W r j d : Nat} (hW : W < BB ^ j) (hr : r < 32) (hj : 0 < j) : (W + BB ^ j * d) / 2 ^ r = W / 2 ^ r + d * 2 ^ (32 * j - r) ∧ W / 2 ^ r < 2 ^ (32 * j - r) := by
  have e : BB ^ j = 2 ^ r * 2 ^ (32 * j - r) := by rw [BB_pow, ← Nat.pow_add]; congr 1; omega
  have hp : 0 < 2 ^ r := Nat.pow_pos (by omega)
  constructor
  · rw [e, Nat.mul_assoc, Nat.add_mul_div_left _ _ hp, Nat.mul_comm d]
  · rw [Nat.div_lt_iff_lt_mul hp, Nat.mul_comm, ← e]; exact hW

theorem val_drop_take (ds : List Nat) (low j : Nat) : val ((ds.drop low).take (j + 1)) = val ((ds.drop low).take j) + BB ^ j * ds.getD (low + j) 0 := by
  rw [val_take_any]
  congr 2
  simp [List.getD]

theorem val_cutat (ds : List Nat) (low : Nat) (h : low ≤ ds.length) : val ds = val (ds.take low) + BB ^ low * val (ds.drop low) := by
  conv => lhs; rw [← List.take_append_drop low ds]
  rw [val_append, List.length_take, Nat.min_eq_left h]
theorem val_div_low {ds : List Nat} (hd : Dig ds) (low r : Nat) (h : low ≤ ds.length) : val ds / 2 ^ (32 * low + r) = val (ds.drop low) / 2 ^ r := by
  rw [Nat.pow_add, ← BB_pow, ← Nat.div_div_eq_div_mul, val_cutat ds low h, Nat.add_mul_div_left _ _ (Nat.pow_pos BB_pos), Nat.div_eq_of_lt (val_take_lt hd low h), Nat.zero_add]

/-- What foreseen steps are worth. -/
def FoP (A B a b c d : Int) : Prop :=
  ((0 ≤ a ∧ b ≤ 0 ∧ c ≤ 0 ∧ 0 ≤ d) ∨ (a ≤ 0 ∧ 0 ≤ b ∧ 0 ≤ c ∧ d ≤ 0)) ∧
    (-2147483648 < a ∧ a < 2147483648 ∧ -2147483648 < b ∧ b < 2147483648 ∧ -2147483648 < c ∧ c < 2147483648 ∧ -2147483648 < d ∧ d < 2147483648) ∧
    (0 ≤ c * A + d * B ∧ c * A + d * B ≤ a * A + b * B ∧ a * A + b * B ≤ A ∧ c * A + d * B ≤ B ∧ (b ≠ 0 → c * A + d * B < B) ∧ Int.gcd (a * A + b * B) (c * A + d * B) = Int.gcd A B)
theorem FoI.p {A B X Y x y a b c d : Int} (h : FoI A B X Y x y a b c d) : FoP A B a b c d := by
  obtain ⟨_, _, h3, h4, _, h6⟩ := h
  exact ⟨by omega, h4, h6⟩
def RetFo (w : World) (A B : Int) (e : Ending) (w' : World) : Prop :=
  ∃ a b c d : Int, e = .returned (.agg #[.int .i64 a, .int .i64 b, .int .i64 c, .int .i64 d]) ∧ FoP A B a b c d ∧ Below w.heap.size w w'

theorem cb_arith (p s cy a b : Int) (d v x y va vb B : Int) (h : v + p * cy = a * va + b * vb) (hs : s = cy + a * x + b * y) (hd : d = s % B) :
    v + p * d + p * B * (s / B) = a * (va + p * x) + b * (vb + p * y) := by
  have h1 : p * d + p * B * (s / B) = p * s := by
    rw [Int.mul_assoc, ← Int.mul_add, hd, Int.emod_add_mul_ediv]
  have h2 : p * s = p * cy + a * (p * x) + b * (p * y) := by
    rw [hs, Int.mul_add, Int.mul_add, show p * (a * x) = a * (p * x) by rw [← Int.mul_assoc, Int.mul_comm p, Int.mul_assoc], show p * (b * y) = b * (p * y) by rw [← Int.mul_assoc, Int.mul_comm p, Int.mul_assoc]]
  rw [Int.mul_add, Int.mul_add]
  omega

/-- Bounds of a product of a factor and a digit. -/
theorem cb_mul {a : Int} {x : Nat} (h1 : -2147483648 < a) (h2 : a < 2147483648) (hx : x < 4294967296) :
    -9223372030412324865 ≤ a * x ∧ a * x ≤ 9223372030412324865 ∧ (0 ≤ a → 0 ≤ a * x) ∧ (a ≤ 0 → a * x ≤ 0) := by
  have hxn : (0 : Int) ≤ (x : Int) := by omega
  refine ⟨?_, ?_, fun h => Int.mul_nonneg h hxn, fun h => Int.mul_nonpos_of_nonpos_of_nonneg h hxn⟩
  · have h3 : (-2147483647) * (x : Int) ≤ a * x := Int.mul_le_mul_of_nonneg_right (by omega) hxn
    omega
  · have h3 : a * (x : Int) ≤ 2147483647 * x := Int.mul_le_mul_of_nonneg_right (by omega) hxn
    omega

theorem cb_last {n : Nat} {a b cy : Int} {V U : Nat} {xs : List Nat} (hl : xs.length = n) (hd : Dig xs) (h : (val xs : Int) + (BB ^ n : Nat) * cy = a * V + b * U) (h0 : 0 ≤ a * (V : Int) + b * U) (h1 : a * (V : Int) + b * U ≤ V) (hV : V < BB ^ n) :
    ((val xs : Nat) : Int) = a * V + b * U := by
  have hx := val_lt hd
  rw [hl] at hx
  have hp : 0 < ((BB ^ n : Nat) : Int) := by have := Nat.pow_pos (n := n) BB_pos; omega
  generalize BB ^ n = P at *
  rcases Int.lt_trichotomy cy 0 with hc | hc | hc
  · have : (P : Int) * cy ≤ P * (-1) := Int.mul_le_mul_of_nonneg_left (by omega) (by omega)
    omega
  · subst hc; omega
  · have : (P : Int) * 1 ≤ P * cy := Int.mul_le_mul_of_nonneg_left (by omega) (by omega)
    omega

end Go.Proofs.Ytkhficmehjglmaa

