/-
  The simplest fraction lies in the interval and has the least denominator: mathematics.
-/
import Derived.Test.YtgjkgmlcfieodaaTfI
set_option linter.unusedVariables false
set_option linter.unusedSimpArgs false
namespace Go.Proofs.Ytgjkgmlcfieodaa

structure SmO (x1 y1 x2 y2 X Y : Int) : Prop where
  pos : 0 < Y
  one : Int.gcd X Y = 1
  lo : x1 * Y ≤ X * y1
  hi : X * y2 ≤ x2 * Y
  min : ∀ m e : Int, 0 < e → x1 * e ≤ m * y1 → m * y2 ≤ x2 * e → Y ≤ e
theorem pos_of_mul {m y : Int} (hy : 0 < y) (h : 0 < m * y) : 0 < m := by
  apply Classical.byContradiction; intro hn
  have := Int.mul_nonpos_of_nonpos_of_nonneg (show m ≤ 0 by omega) (Int.le_of_lt hy)
  omega
theorem smQ_ok {x1 y1 x2 y2 : Int} (h1 : Cp x1 y1) (h2 : Cp x2 y2) (hE : ¬ x2 * y1 < x1 * y2) : SmO x1 y1 x2 y2 (smQ x1 y1 x2 y2).1 (smQ x1 y1 x2 y2).2 := by
  have a1 := h1.pos
  have a2 := h2.pos
  unfold smQ
  rw [if_neg hE]
  by_cases hp : 0 < x1
  · rw [if_pos hp]
    have h4 := pos4_of h1 h2 hE hp
    have hs := simpl_ok (smK y1 y2) x1 y1 x2 y2 h4 (by unfold smK; omega)
    refine ⟨hs.pq, hs.gcd, hs.lo, hs.hi, fun m e e0 l1 l2 => (hs.min m e (pos_of_mul a1 ?_) e0 l1 l2).2⟩
    have := Int.mul_pos hp e0
    omega
  · rw [if_neg hp]
    by_cases hn : x2 < 0
    · rw [if_pos hn]
      have h4 := pos4_of h2.neg h1.neg (neg_le hE) (show 0 < -x2 by omega)
      have hs := simpl_ok (smK y2 y1) (-x2) y2 (-x1) y1 h4 (by unfold smK; omega)
      have l1 := hs.lo
      have l2 := hs.hi
      refine ⟨hs.pq, ?_, ?_, ?_, fun m e e0 k1 k2 => (hs.min (-m) e (pos_of_mul a2 ?_) e0 ?_ ?_).2⟩
      · show Int.gcd (-(simpl (smK y2 y1) (-x2) y2 (-x1) y1).1) (simpl (smK y2 y1) (-x2) y2 (-x1) y1).2 = 1
        rw [Int.neg_gcd]; exact hs.gcd
      · show x1 * (simpl (smK y2 y1) (-x2) y2 (-x1) y1).2 ≤ -(simpl (smK y2 y1) (-x2) y2 (-x1) y1).1 * y1
        rw [Int.neg_mul] at l2 ⊢; omega
      · show -(simpl (smK y2 y1) (-x2) y2 (-x1) y1).1 * y2 ≤ x2 * (simpl (smK y2 y1) (-x2) y2 (-x1) y1).2
        rw [Int.neg_mul] at l1 ⊢; omega
      · have := Int.mul_neg_of_neg_of_pos hn e0
        rw [Int.neg_mul]; omega
      · rw [Int.neg_mul, Int.neg_mul]; omega
      · rw [Int.neg_mul, Int.neg_mul]; omega
    · rw [if_neg hn]
      exact ⟨by decide, by decide, by simp; omega, by simp; omega, fun m e e0 _ _ => by show 1 ≤ e; omega⟩
theorem r_times (a b k : Int) : rn (a * k) (b * 1) * rd a b = (rn a b * k) * rd (a * k) (b * 1) := by
  by_cases hb : b = 0
  · subst hb
    rw [Int.zero_mul, (r_zero (a * k)).1, (r_zero (a * k)).2, (r_zero a).1, (r_zero a).2]; simp
  · have h1 := r_val (a * k) (b * 1) (by omega)
    have h2 := r_val a b hb
    generalize rn (a * k) (b * 1) = P at *
    generalize rd (a * k) (b * 1) = Q at *
    generalize rn a b = x at *
    generalize rd a b = y at *
    apply Int.eq_of_mul_eq_mul_right hb
    have e1 : P * y * b = (P * (b * 1)) * y := by grind
    have e2 : x * k * Q * b = (x * b) * (k * Q) := by grind
    rw [e1, e2, h1, h2]
    grind
/-- No denominator below the result's has an integer between. -/
theorem least_round {a b c d k X Y : Int} (ho : SmO (rn a b) (rd a b) (rn c d) (rd c d) X Y) (hk : 0 < k) (hlt : k < Y) :
    cmpI (-dmQ (-(rn (a * k) (b * 1))) (rd (a * k) (b * 1))) (dmQ (rn (c * k) (d * 1)) (rd (c * k) (d * 1))) = 1 := by
  have c1 := r_times a b k
  have c2 := r_times c d k
  have q1 := rd_pos (a * k) (b * 1)
  have q2 := rd_pos (c * k) (d * 1)
  have y1 := rd_pos a b
  have y2 := rd_pos c d
  rw [dmQ_pos q1, dmQ_pos q2]
  have hc := cei_lo (a := rn (a * k) (b * 1)) q1
  unfold cei at hc
  generalize rn (a * k) (b * 1) = P at *
  generalize rd (a * k) (b * 1) = Q at *
  generalize rn (c * k) (d * 1) = P2 at *
  generalize rd (c * k) (d * 1) = Q2 at *
  generalize rn a b = u1 at *
  generalize rd a b = v1 at *
  generalize rn c d = u2 at *
  generalize rd c d = v2 at *
  generalize -(-P / Q) = m at *
  refine cmpI_gt ?_
  apply Classical.byContradiction; intro hn
  have hm : m * Q2 ≤ P2 := (Int.le_ediv_iff_mul_le q2).1 (by omega)
  have l1 : u1 * k ≤ m * v1 := by
    refine Int.le_of_mul_le_mul_right (a := Q) ?_ q1
    have e2 : m * v1 * Q = (m * Q) * v1 := by grind
    rw [← c1, e2]
    exact Int.mul_le_mul_of_nonneg_right hc (Int.le_of_lt y1)
  have l2 : m * v2 ≤ u2 * k := by
    refine Int.le_of_mul_le_mul_right (a := Q2) ?_ q2
    have e2 : m * v2 * Q2 = (m * Q2) * v2 := by grind
    rw [← c2, e2]
    exact Int.mul_le_mul_of_nonneg_right hm (Int.le_of_lt y2)
  have := ho.min m k hk l1 l2
  omega
end Go.Proofs.Ytgjkgmlcfieodaa

