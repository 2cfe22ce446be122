/-
  The simplest fraction of an interval: mathematics.
-/
import Derived.Test.YtgjkgmlcfieodaaFrM
set_option linter.unusedVariables false
set_option linter.unusedSimpArgs false
namespace Go.Proofs.Ytgjkgmlcfieodaa

/-- The smallest integer that is not below a / b. -/
def cei (a b : Int) : Int := -((-a) / b)
/-- The simplest fraction from a / b to c / d, both positive. -/
def simpl : Nat → Int → Int → Int → Int → Int × Int
  | 0, _, _, _, _ => (0, 1)
  | k + 1, a, b, c, d => if cei a b * d ≤ c then (cei a b, 1) else ((a / b) * (simpl k d (c % d) b (a % b)).1 + (simpl k d (c % d) b (a % b)).2, (simpl k d (c % d) b (a % b)).1)
structure Pos4 (a b c d : Int) : Prop where
  pa : 0 < a
  pb : 0 < b
  pc : 0 < c
  pd : 0 < d
  le : a * d ≤ c * b
theorem cei_lo {a b : Int} (hb : 0 < b) : a ≤ cei a b * b := by
  unfold cei
  have h := Int.ediv_mul_le (-a) (show b ≠ 0 by omega)
  rw [Int.neg_mul]; omega
theorem cei_hi {a b : Int} (hb : 0 < b) : cei a b * b < a + b := by
  unfold cei
  have h := Int.lt_ediv_add_one_mul_self (-a) hb
  rw [Int.neg_mul]
  rw [Int.add_mul] at h
  omega
theorem cei_pos {a b : Int} (ha : 0 < a) (hb : 0 < b) : 0 < cei a b := by
  have h := cei_lo (a := a) hb
  apply Classical.byContradiction; intro hn
  have : cei a b * b ≤ 0 := Int.mul_nonpos_of_nonpos_of_nonneg (by omega) (by omega)
  omega
/-- Where no integer lies between them, both have the same floor, and rests above 0. -/
theorem floors {a b c d : Int} (h : Pos4 a b c d) (hn : ¬ cei a b * d ≤ c) : c / d = a / b ∧ 0 < a % b ∧ a % b < b ∧ 0 < c % d ∧ c % d < d ∧ 0 ≤ a / b ∧ a = b * (a / b) + a % b ∧ c = d * (a / b) + c % d ∧ cei a b = a / b + 1 := by
  have hb := h.pb
  have hd := h.pd
  have e1 := Int.mul_ediv_add_emod a b
  have r0 := Int.emod_nonneg a (show b ≠ 0 by omega)
  have r1 := Int.emod_lt_of_pos a hb
  have hq : 0 ≤ a / b := Int.ediv_nonneg (by have := h.pa; omega) (by omega)
  have hle := h.le
  generalize hQ : a / b = q at *
  generalize hR : a % b = r at *
  have hlo := cei_lo (a := a) hb
  have hhi := cei_hi (a := a) hb
  generalize hM : cei a b = m at *
  -- m b is at least a and below a + b
  have hr : 0 < r := by
    apply Classical.byContradiction; intro hr
    have hr0 : r = 0 := by omega
    have hmq : m ≤ q := by
      have h1 : m * b < (q + 1) * b := by rw [Int.add_mul, Int.mul_comm q b]; omega
      have := Int.lt_of_mul_lt_mul_right h1 (by omega)
      omega
    have h2 : m * d ≤ q * d := Int.mul_le_mul_of_nonneg_right hmq (by omega)
    have h3 : (q * d) * b ≤ c * b := by
      have : (q * d) * b = a * d := by rw [← e1, hr0]; grind
      rw [this]; exact hle
    have h4 := Int.le_of_mul_le_mul_right h3 hb
    omega
  have hmq : m = q + 1 := by
    have h1 : m * b < (q + 2) * b := by rw [Int.add_mul, Int.mul_comm q b]; omega
    have h2 : q * b < m * b := by rw [Int.mul_comm q b]; omega
    have := Int.lt_of_mul_lt_mul_right h1 (by omega)
    have := Int.lt_of_mul_lt_mul_right h2 (by omega)
    omega
  have hc1 : c < (q + 1) * d := by rw [← hmq]; omega
  have hc2 : q * d < c := by
    apply Classical.byContradiction; intro hcn
    have h1 : c * b ≤ (q * d) * b := Int.mul_le_mul_of_nonneg_right (by omega) (by omega)
    have h2 : a * d = (q * d) * b + r * d := by rw [← e1]; grind
    have h3 : 0 < r * d := Int.mul_pos hr hd
    omega
  have hcq : c / d = q := by
    apply Int.le_antisymm
    · have := Int.ediv_lt_of_lt_mul hd hc1; omega
    · exact Int.le_ediv_of_mul_le hd (by omega)
  have e2 := Int.mul_ediv_add_emod c d
  rw [hcq] at e2
  have hrest : 0 < c % d := by rw [Int.mul_comm q d] at hc2; omega
  exact ⟨hcq, hr, r1, hrest, Int.emod_lt_of_pos c hd, hq, e1.symm, e2.symm, hmq⟩
theorem Pos4.step {a b c d : Int} (h : Pos4 a b c d) (hn : ¬ cei a b * d ≤ c) : Pos4 d (c % d) b (a % b) := by
  obtain ⟨f1, f2, f3, f4, f5, f6, f7, f8, _⟩ := floors h hn
  refine ⟨h.pd, f4, h.pb, f2, ?_⟩
  have hle := h.le
  generalize a / b = q at *
  generalize a % b = r at *
  generalize c % d = s at *
  subst f7 f8
  grind
structure Simp4 (a b c d p q : Int) : Prop where
  pp : 0 < p
  pq : 0 < q
  lo : a * q ≤ p * b
  hi : p * d ≤ c * q
  min : ∀ m e : Int, 0 < m → 0 < e → a * e ≤ m * b → m * d ≤ c * e → p ≤ m ∧ q ≤ e
  cop : ∀ x : Int, x ∣ p → x ∣ q → x ∣ 1
theorem simpl_end {a b c d : Int} (h : Pos4 a b c d) (hm : cei a b * d ≤ c) : Simp4 a b c d (cei a b) 1 := by
  have hb := h.pb
  have hd := h.pd
  have hlo := cei_lo (a := a) hb
  have hhi := cei_hi (a := a) hb
  have hp := cei_pos h.pa hb
  refine ⟨hp, by omega, by omega, by omega, fun m e m0 e0 h1 h2 => ⟨?_, by omega⟩, fun x _ hx => hx⟩
  generalize cei a b = n at *
  apply Classical.byContradiction; intro hn
  -- m ≤ n - 1, so m b ≤ (n - 1) b < a ≤ a e
  have h3 : m * b ≤ (n - 1) * b := Int.mul_le_mul_of_nonneg_right (by omega) (by omega)
  have h4 : a * 1 ≤ a * e := Int.mul_le_mul_of_nonneg_left (by omega) (by have := h.pa; omega)
  rw [Int.sub_mul] at h3
  omega
theorem simpl_ok : ∀ (k : Nat) (a b c d : Int), Pos4 a b c d → b + d ≤ k → Simp4 a b c d (simpl k a b c d).1 (simpl k a b c d).2
  | 0, a, b, c, d, h, hk => by have := h.pb; have := h.pd; omega
  | k + 1, a, b, c, d, h, hk => by
    unfold simpl
    by_cases hm : cei a b * d ≤ c
    · rw [if_pos hm]; exact simpl_end h hm
    · rw [if_neg hm]
      obtain ⟨f1, f2, f3, f4, f5, f6, f7, f8, f9⟩ := floors h hm
      have ih := simpl_ok k d (c % d) b (a % b) (h.step hm) (by omega)
      generalize hP : (simpl k d (c % d) b (a % b)).1 = P at *
      generalize hQ : (simpl k d (c % d) b (a % b)).2 = Q at *
      obtain ⟨p0, q0, lo, hi, mn, cop⟩ := ih
      have hb := h.pb
      have hd := h.pd
      have ha := h.pa
      have hc := h.pc
      generalize a / b = t at *
      generalize a % b = r at *
      generalize c % d = s at *
      refine ⟨?_, p0, ?_, ?_, ?_, ?_⟩
      · have : 0 ≤ t * P := Int.mul_nonneg f6 (by omega); show 0 < t * P + Q; omega
      · show a * P ≤ (t * P + Q) * b
        have : a * P = (t * P) * b + r * P := by rw [f7]; grind
        have : (t * P + Q) * b = (t * P) * b + Q * b := by grind
        have : P * r ≤ b * Q := hi
        grind
      · show (t * P + Q) * d ≤ c * P
        have : c * P = (t * P) * d + s * P := by rw [f8]; grind
        have : (t * P + Q) * d = (t * P) * d + Q * d := by grind
        have : d * Q ≤ P * s := lo
        grind
      · intro m e m0 e0 h1 h2
        -- m / e has the same floor
        have e2 := Int.mul_ediv_add_emod m e
        have u0 := Int.emod_nonneg m (show e ≠ 0 by omega)
        have u1 := Int.emod_lt_of_pos m e0
        have hm1 : t * e < m := by
          apply Classical.byContradiction; intro hn
          have h3 : m * b ≤ (t * e) * b := Int.mul_le_mul_of_nonneg_right (by omega) (by omega)
          have h4 : a * e = (t * e) * b + r * e := by rw [f7]; grind
          have h5 : 0 < r * e := Int.mul_pos f2 e0
          omega
        have hm2 : m < (t + 1) * e := by
          apply Classical.byContradiction; intro hn
          have h3 : ((t + 1) * e) * d ≤ m * d := Int.mul_le_mul_of_nonneg_right (by omega) (by omega)
          have h4 : c * e = ((t + 1) * e) * d + (s - d) * e := by rw [f8]; grind
          have h5 : (s - d) * e < 0 := Int.mul_neg_of_neg_of_pos (by omega) e0
          omega
        obtain ⟨v, hv⟩ : ∃ v, m = t * e + v := ⟨m - t * e, by omega⟩
        have v0 : 0 < v := by omega
        have h6 : d * v ≤ e * s := by
          have : m * d = (t * e) * d + v * d := by rw [hv]; grind
          have : c * e = (t * e) * d + s * e := by rw [f8]; grind
          grind
        have h7 : e * r ≤ b * v := by
          have : a * e = (t * e) * b + r * e := by rw [f7]; grind
          have : m * b = (t * e) * b + v * b := by rw [hv]; grind
          grind
        obtain ⟨i1, i2⟩ := mn e v e0 v0 h6 h7
        refine ⟨?_, i1⟩
        show t * P + Q ≤ m
        have : t * P ≤ t * e := Int.mul_le_mul_of_nonneg_left i1 f6
        omega
      · intro x hx1 hx2
        have hx1' : x ∣ t * P + Q := hx1
        have hx2' : x ∣ P := hx2
        refine cop x hx2' ?_
        have h1 : x ∣ t * P := Int.dvd_mul_of_dvd_right hx2'
        have := Int.dvd_sub hx1' h1
        rwa [show t * P + Q - t * P = Q by omega] at this
theorem simpl_fuel : ∀ (k l : Nat) (a b c d : Int), Pos4 a b c d → b + d ≤ k → b + d ≤ l → simpl k a b c d = simpl l a b c d
  | 0, _, a, b, c, d, h, hk, _ => by have := h.pb; have := h.pd; omega
  | _, 0, a, b, c, d, h, _, hl => by have := h.pb; have := h.pd; omega
  | k + 1, l + 1, a, b, c, d, h, hk, hl => by
    unfold simpl
    by_cases hm : cei a b * d ≤ c
    · rw [if_pos hm, if_pos hm]
    · rw [if_neg hm, if_neg hm]
      obtain ⟨f1, f2, f3, f4, f5, _⟩ := floors h hm
      rw [simpl_fuel k l d (c % d) b (a % b) (h.step hm) (by omega) (by omega)]
/-- The simplest fraction depends on the values only. -/
theorem cei_scale {x a b : Int} (hx : 0 < x) : cei (x * a) (x * b) = cei a b := by
  unfold cei
  rw [show -(x * a) = x * (-a) by grind, Int.mul_ediv_mul_of_pos _ _ hx]
theorem simpl_scale : ∀ (k : Nat) (x y a b c d : Int), 0 < x → 0 < y → Pos4 a b c d → simpl k (x * a) (x * b) (y * c) (y * d) = simpl k a b c d
  | 0, _, _, _, _, _, _, _, _, _ => rfl
  | k + 1, x, y, a, b, c, d, hx, hy, h => by
    unfold simpl
    rw [cei_scale hx, Int.mul_ediv_mul_of_pos _ _ hx, Int.mul_emod_mul_of_pos _ _ hy, Int.mul_emod_mul_of_pos _ _ hx]
    have e1 : (cei a b * (y * d) ≤ y * c) ↔ (cei a b * d ≤ c) := by
      rw [show cei a b * (y * d) = y * (cei a b * d) by grind]
      exact Int.mul_le_mul_left hy
    by_cases hm : cei a b * d ≤ c
    · rw [if_pos hm, if_pos (e1.2 hm)]
    · rw [if_neg hm, if_neg (fun h => hm (e1.1 h))]
      rw [simpl_scale k y x d (c % d) b (a % b) hy hx (h.step hm)]
end Go.Proofs.Ytgjkgmlcfieodaa

