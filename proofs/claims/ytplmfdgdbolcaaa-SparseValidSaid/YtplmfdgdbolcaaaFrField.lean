/-
  The laws of an ordered field for canonical pairs (mathematics).
-/
import Derived.Test.YtplmfdgdbolcaaaFrAdd2
set_option linter.unusedVariables false
set_option linter.unusedSimpArgs false
namespace Go.Proofs.Ytplmfdgdbolcaaa

/-- Two pairs of one value. -/
def Eqv (n d m e : Int) : Prop := d ≠ 0 ∧ e ≠ 0 ∧ n * e = m * d
theorem Eqv.refl (n : Int) {d : Int} (h : d ≠ 0) : Eqv n d n d := ⟨h, h, rfl⟩
theorem Eqv.r (n : Int) {d : Int} (h : d ≠ 0) : Eqv (rn n d) (rd n d) n d := ⟨by have := rd_pos n d; omega, h, r_val n d h⟩
theorem Eqv.add {n d m e n' d' m' e' : Int} (h : Eqv n d m e) (h' : Eqv n' d' m' e') : Eqv (n * d' + n' * d) (d * d') (m * e' + m' * e) (e * e') := by
  obtain ⟨h1, h2, h3⟩ := h
  obtain ⟨h4, h5, h6⟩ := h'
  refine ⟨mul_ne h1 h4, mul_ne h2 h5, ?_⟩
  calc (n * d' + n' * d) * (e * e') = (n * e) * (d' * e') + (n' * e') * (d * e) := by grind
    _ = (m * d) * (d' * e') + (m' * d') * (d * e) := by rw [h3, h6]
    _ = (m * e' + m' * e) * (d * d') := by grind
theorem Eqv.mul {n d m e n' d' m' e' : Int} (h : Eqv n d m e) (h' : Eqv n' d' m' e') : Eqv (n * n') (d * d') (m * m') (e * e') := by
  obtain ⟨h1, h2, h3⟩ := h
  obtain ⟨h4, h5, h6⟩ := h'
  refine ⟨mul_ne h1 h4, mul_ne h2 h5, ?_⟩
  calc n * n' * (e * e') = (n * e) * (n' * e') := by grind
    _ = (m * d) * (m' * d') := by rw [h3, h6]
    _ = m * m' * (d * d') := by grind
theorem Eqv.trans {n d m e l f : Int} (h : Eqv n d m e) (h' : Eqv m e l f) : Eqv n d l f := by
  obtain ⟨h1, h2, h3⟩ := h
  obtain ⟨h4, h5, h6⟩ := h'
  refine ⟨h1, h5, Int.eq_of_mul_eq_mul_right h2 ?_⟩
  calc n * f * e = (n * e) * f := by grind
    _ = (m * f) * d := by rw [h3]; grind
    _ = l * d * e := by rw [h6]; grind
theorem Eqv.symm {n d m e : Int} (h : Eqv n d m e) : Eqv m e n d := ⟨h.2.1, h.1, h.2.2.symm⟩
theorem Eqv.same {n d m e : Int} (h : Eqv n d m e) : rn n d = rn m e ∧ rd n d = rd m e := r_same h.1 h.2.1 h.2.2
theorem rd_ne (a b : Int) : rd a b ≠ 0 := by have := rd_pos a b; omega
theorem mul_c (a b c d : Int) : rn (a * c) (b * d) = rn (rn a b * rn c d) (rd a b * rd c d) ∧ rd (a * c) (b * d) = rd (rn a b * rn c d) (rd a b * rd c d) := by
  by_cases hb : b = 0
  · subst hb
    rw [Int.zero_mul, (r_zero _).1, (r_zero _).2, (r_zero a).1, Int.zero_mul]
    exact ⟨((rn_zero_iff _ _).2 (Or.inl rfl)).symm, (r_zero _).2.trans (rd_one_of rfl).symm⟩
  · by_cases hd : d = 0
    · subst hd
      rw [Int.mul_zero, (r_zero _).1, (r_zero _).2, (r_zero c).1, Int.mul_zero]
      exact ⟨((rn_zero_iff _ _).2 (Or.inl rfl)).symm, (r_zero _).2.trans (rd_one_of rfl).symm⟩
    · exact ((Eqv.r a hb).mul (Eqv.r c hd)).symm.same
theorem aE (a b c d : Int) : Eqv (aN a b c d) (aD a b c d) (rn a b * rd c d + rn c d * rd a b) (rd a b * rd c d) := Eqv.r _ (mul_ne (rd_ne a b) (rd_ne c d))
theorem a_r (a b c d : Int) : rn (aN a b c d) (aD a b c d) = aN a b c d ∧ rd (aN a b c d) (aD a b c d) = aD a b c d := r_self (aD_pos a b c d) (aN_gcd a b c d)
/-- Distributivity. -/
theorem fld_dist (a b c d e f : Int) : aN (rn (a * c) (b * d)) (rd (a * c) (b * d)) (rn (a * e) (b * f)) (rd (a * e) (b * f)) = rn (a * aN c d e f) (b * aD c d e f) ∧
    aD (rn (a * c) (b * d)) (rd (a * c) (b * d)) (rn (a * e) (b * f)) (rd (a * e) (b * f)) = rd (a * aN c d e f) (b * aD c d e f) := by
  rw [(mul_c a b (aN c d e f) (aD c d e f)).1, (mul_c a b (aN c d e f) (aD c d e f)).2, (a_r c d e f).1, (a_r c d e f).2]
  rw [(mul_c a b c d).1, (mul_c a b c d).2, (mul_c a b e f).1, (mul_c a b e f).2]
  have p1 := rd_ne a b
  have p2 := rd_ne c d
  have p3 := rd_ne e f
  have hS := aE c d e f
  generalize aN c d e f = S at *
  generalize aD c d e f = T at *
  generalize rn a b = n1 at *
  generalize rd a b = d1 at *
  generalize rn c d = n2 at *
  generalize rd c d = d2 at *
  generalize rn e f = n3 at *
  generalize rd e f = d3 at *
  have h1 := (Eqv.r (n1 * n2) (mul_ne p1 p2)).add (Eqv.r (n1 * n3) (mul_ne p1 p3))
  have h2 := (Eqv.refl n1 p1).mul hS
  unfold aN aD
  rw [(r_r (n1 * n2) (d1 * d2)).1, (r_r (n1 * n2) (d1 * d2)).2, (r_r (n1 * n3) (d1 * d3)).1, (r_r (n1 * n3) (d1 * d3)).2]
  refine (h1.trans (Eqv.trans ?_ h2.symm)).same
  exact ⟨mul_ne (mul_ne p1 p2) (mul_ne p1 p3), mul_ne p1 (mul_ne p2 p3), by grind⟩
/-- Associativity. -/
theorem fld_assoc (a b c d e f : Int) : aN a b (aN c d e f) (aD c d e f) = aN (aN a b c d) (aD a b c d) e f ∧ aD a b (aN c d e f) (aD c d e f) = aD (aN a b c d) (aD a b c d) e f := by
  have p1 := rd_ne a b
  have p2 := rd_ne c d
  have p3 := rd_ne e f
  have h1 := (Eqv.refl (rn a b) p1).add (aE c d e f)
  have h2 := (aE a b c d).add (Eqv.refl (rn e f) p3)
  have e1 : aN a b (aN c d e f) (aD c d e f) = rn (rn a b * aD c d e f + aN c d e f * rd a b) (rd a b * aD c d e f) ∧ aD a b (aN c d e f) (aD c d e f) = rd (rn a b * aD c d e f + aN c d e f * rd a b) (rd a b * aD c d e f) := by
    rw [aN.eq_def a b (aN c d e f), aD.eq_def a b (aN c d e f), (a_r c d e f).1, (a_r c d e f).2]; exact ⟨rfl, rfl⟩
  have e2 : aN (aN a b c d) (aD a b c d) e f = rn (aN a b c d * rd e f + rn e f * aD a b c d) (aD a b c d * rd e f) ∧ aD (aN a b c d) (aD a b c d) e f = rd (aN a b c d * rd e f + rn e f * aD a b c d) (aD a b c d * rd e f) := by
    rw [aN.eq_def (aN a b c d), aD.eq_def (aN a b c d), (a_r a b c d).1, (a_r a b c d).2]; exact ⟨rfl, rfl⟩
  rw [e1.1, e1.2, e2.1, e2.2]
  refine (h1.trans (Eqv.trans ?_ h2.symm)).same
  generalize rn a b = n1 at *
  generalize rd a b = d1 at *
  generalize rn c d = n2 at *
  generalize rd c d = d2 at *
  generalize rn e f = n3 at *
  generalize rd e f = d3 at *
  exact ⟨mul_ne p1 (mul_ne p2 p3), mul_ne (mul_ne p1 p2) p3, by grind⟩
/-- The order by any two pairs with positive second members. -/
theorem cmp_rep {x y u v m e n f : Int} (hy : 0 < y) (hv : 0 < v) (he : 0 < e) (hf : 0 < f) (h1 : Eqv x y m e) (h2 : Eqv u v n f) : cmpI (x * v) (u * y) = cmpI (m * f) (n * e) := by
  have k1 : (0 : Int) < e * f := Int.mul_pos he hf
  have k2 : (0 : Int) < y * v := Int.mul_pos hy hv
  rw [← cmpI_mul (x * v) (u * y) k1, ← cmpI_mul (m * f) (n * e) k2]
  have a1 := h1.2.2
  have a2 := h2.2.2
  congr 1
  · calc x * v * (e * f) = (x * e) * (v * f) := by grind
      _ = m * f * (y * v) := by rw [a1]; grind
  · calc u * y * (e * f) = (u * f) * (y * e) := by grind
      _ = n * e * (y * v) := by rw [a2]; grind
theorem cmpI_add (x y z : Int) : cmpI (x + z) (y + z) = cmpI x y := by
  unfold cmpI
  have h1 : x + z < y + z ↔ x < y := by omega
  have h2 : y + z < x + z ↔ y < x := by omega
  simp only [h1, h2]
/-- Addition preserves the order. -/
theorem fld_ord (a b c d e f : Int) :
    cmpI (un (aN a b e f) (aD a b e f) * ud (aN c d e f) (aD c d e f)) (un (aN c d e f) (aD c d e f) * ud (aN a b e f) (aD a b e f)) = cmpI (un a b * ud c d) (un c d * ud a b) := by
  rw [cmp_same, cmp_same, (a_r a b e f).1, (a_r a b e f).2, (a_r c d e f).1, (a_r c d e f).2]
  have q1 := rd_pos a b
  have q2 := rd_pos c d
  have q3 := rd_pos e f
  rw [cmp_rep (aD_pos a b e f) (aD_pos c d e f) (Int.mul_pos q1 q3) (Int.mul_pos q2 q3) (aE a b e f) (aE c d e f)]
  generalize rn a b = n1 at *
  generalize rd a b = d1 at *
  generalize rn c d = n2 at *
  generalize rd c d = d2 at *
  generalize rn e f = n3 at *
  generalize rd e f = d3 at *
  rw [← cmpI_mul (n1 * d2) (n2 * d1) (Int.mul_pos q3 q3), ← cmpI_add (n1 * d2 * (d3 * d3)) (n2 * d1 * (d3 * d3)) (n3 * d1 * d2 * d3)]
  congr 1 <;> grind
/-- The quotient times the divisor. -/
theorem fld_div (a b c d : Int) (hc : c ≠ 0) (hd : d ≠ 0) :
    cmpI (un (rn (rn (a * d) (b * c) * c) (rd (a * d) (b * c) * d)) (rd (rn (a * d) (b * c) * c) (rd (a * d) (b * c) * d)) * ud a b) (un a b * ud (rn (rn (a * d) (b * c) * c) (rd (a * d) (b * c) * d)) (rd (rn (a * d) (b * c) * c) (rd (a * d) (b * c) * d))) = 0 := by
  rw [cmp_same, (r_r _ _).1, (r_r _ _).2]
  have e : rn (rn (a * d) (b * c) * c) (rd (a * d) (b * c) * d) = rn a b ∧ rd (rn (a * d) (b * c) * c) (rd (a * d) (b * c) * d) = rd a b := by
    by_cases hb : b = 0
    · subst hb
      rw [Int.zero_mul, (r_zero _).1, (r_zero _).2, Int.zero_mul, (r_zero a).1, (r_zero a).2]
      exact ⟨(rn_zero_iff _ _).2 (Or.inl rfl), rd_one_of rfl⟩
    · have h1 := (Eqv.r (a * d) (mul_ne hb hc)).mul (Eqv.refl c hd)
      refine (h1.trans (e := _) ?_).same
      exact ⟨mul_ne (mul_ne hb hc) hd, hb, by grind⟩
  rw [e.1, e.2]
  exact cmpI_eq rfl
end Go.Proofs.Ytplmfdgdbolcaaa
