/-
  Signs, comparisons, opposites, quotients of canonical pairs (mathematics).
-/
import Derived.Test.YtplmfdgdbolcaaaFrAdd
import Derived.Test.YtplmfdgdbolcaaaZops
set_option linter.unusedVariables false
set_option linter.unusedSimpArgs false
namespace Go.Proofs.Ytplmfdgdbolcaaa

theorem cmpI_mul (x y : Int) {k : Int} (hk : 0 < k) : cmpI (x * k) (y * k) = cmpI x y := by
  have h1 : x * k < y * k ↔ x < y := ⟨fun h => Int.lt_of_mul_lt_mul_right h (by omega), fun h => Int.mul_lt_mul_of_pos_right h hk⟩
  have h2 : y * k < x * k ↔ y < x := ⟨fun h => Int.lt_of_mul_lt_mul_right h (by omega), fun h => Int.mul_lt_mul_of_pos_right h hk⟩
  unfold cmpI
  simp only [h1, h2]
theorem sgn_mulp (x : Int) {k : Int} (hk : 0 < k) : sgn (x * k) = sgn x := by
  have := cmpI_mul x 0 hk
  rw [Int.zero_mul] at this
  exact this
theorem sgn_neg_ (x : Int) : sgn (-x) = -sgn x := by
  unfold sgn cmpI
  rcases Int.lt_trichotomy x 0 with h | h | h
  · rw [if_neg (by omega), if_pos (by omega), if_pos h]; rfl
  · subst h; rfl
  · rw [if_pos (by omega), if_neg (by omega), if_pos h]
theorem sgn_un (a b : Int) : sgn (un a b) = sgn a * sgn b := by
  rcases Int.lt_trichotomy b 0 with h | h | h
  · rw [un_neg h, sgn_neg_, show sgn b = -1 from cmpI_lt h, Int.mul_neg, Int.mul_one]
  · subst h; rw [un_zero, show sgn 0 = 0 from rfl, Int.mul_zero]
  · rw [un_pos h, show sgn b = 1 from cmpI_gt h, Int.mul_one]
theorem sgn_rn (a b : Int) : sgn (rn a b) = sgn a * sgn b := by
  rw [← sgn_un, ← rn_mul a b, sgn_mulp _ (by have := ug_pos a b; omega)]
theorem cmp_same (a b c d : Int) : cmpI (un a b * ud c d) (un c d * ud a b) = cmpI (rn a b * rd c d) (rn c d * rd a b) := by
  have h1 := rn_mul a b
  have h2 := rd_mul a b
  have h3 := rn_mul c d
  have h4 := rd_mul c d
  have g1 := ug_pos a b
  have g2 := ug_pos c d
  generalize Int.gcd (un a b) (ud a b) = g at h1 h2 g1
  generalize Int.gcd (un c d) (ud c d) = k at h3 h4 g2
  have hp : (0 : Int) < (g : Int) * (k : Int) := Int.mul_pos (by omega) (by omega)
  rw [← cmpI_mul (rn a b * rd c d) (rn c d * rd a b) hp, ← h1, ← h2, ← h3, ← h4]
  congr 1 <;> grind
theorem neg_same (a b : Int) : rn (-a) b = -rn a b ∧ rd (-a) b = rd a b := by
  by_cases hb : b = 0
  · subst hb
    rw [(r_zero (-a)).1, (r_zero (-a)).2, (r_zero a).1, (r_zero a).2]; exact ⟨rfl, rfl⟩
  · have h := r_only (z := -a) (d := b) (a := -rn a b) (b := rd a b) hb (rd_pos a b) (by rw [Int.neg_gcd]; exact rn_gcd a b) (by rw [Int.neg_mul, Int.neg_mul, r_val a b hb])
    exact ⟨h.1.symm, h.2.symm⟩
theorem abs_same (a b : Int) : rn (a.natAbs : Int) (b.natAbs : Int) = ((rn a b).natAbs : Int) ∧ rd (a.natAbs : Int) (b.natAbs : Int) = rd a b := by
  by_cases hb : b = 0
  · subst hb
    rw [show ((0 : Int).natAbs : Int) = 0 from rfl, (r_zero _).1, (r_zero _).2, (r_zero a).1, (r_zero a).2]; exact ⟨rfl, rfl⟩
  · have h1 := congrArg Int.natAbs (r_val a b hb)
    rw [Int.natAbs_mul, Int.natAbs_mul] at h1
    have h2 : ((rd a b).natAbs : Int) = rd a b := by have := rd_pos a b; omega
    have h := r_only (z := (a.natAbs : Int)) (d := (b.natAbs : Int)) (a := ((rn a b).natAbs : Int)) (b := rd a b) (by omega) (rd_pos a b)
      (by have := rn_gcd a b; unfold Int.gcd at this ⊢; rw [Int.natAbs_natCast]; exact this)
      (by rw [← h2, ← Int.natCast_mul, ← Int.natCast_mul, h1])
    exact ⟨h.1.symm, h.2.symm⟩
theorem add_r (a b c d : Int) : aN a b (rn c d) (rd c d) = aN a b c d ∧ aD a b (rn c d) (rd c d) = aD a b c d := by
  unfold aN aD
  rw [(r_r c d).1, (r_r c d).2]; exact ⟨rfl, rfl⟩
theorem add_l (a b c d : Int) : aN (rn a b) (rd a b) c d = aN a b c d ∧ aD (rn a b) (rd a b) c d = aD a b c d := by
  unfold aN aD
  rw [(r_r a b).1, (r_r a b).2]; exact ⟨rfl, rfl⟩
theorem rn_zero_iff (c d : Int) : rn c d = 0 ↔ c = 0 ∨ d = 0 := by
  constructor
  · intro h
    have h1 := sgn_rn c d
    rw [h, show sgn 0 = 0 from rfl] at h1
    rcases Int.mul_eq_zero.1 h1.symm with h2 | h2
    · left; unfold sgn cmpI at h2; split at h2 <;> (try split at h2) <;> omega
    · right; unfold sgn cmpI at h2; split at h2 <;> (try split at h2) <;> omega
  · rintro (h | h)
    · subst h
      by_cases hd : d = 0
      · subst hd; exact (r_zero 0).1
      · have h1 := r_val 0 d hd
        rw [Int.zero_mul] at h1
        exact (Int.mul_eq_zero.1 h1).resolve_right hd
    · subst h; exact (r_zero c).1
theorem rd_one_of {c d : Int} (h : c = 0) : rd c d = 1 := by
  have h1 := (rn_zero_iff c d).2 (Or.inl h)
  have h2 := rn_gcd c d
  rw [h1, Int.gcd_zero_left] at h2
  have := rd_pos c d
  omega
theorem div_same {a b c d : Int} (hc : c ≠ 0) (hd : d ≠ 0) : rn (rn a b * rd c d) (rd a b * rn c d) = rn (a * d) (b * c) ∧ rd (rn a b * rd c d) (rd a b * rn c d) = rd (a * d) (b * c) := by
  have hn : rn c d ≠ 0 := fun h => by rcases (rn_zero_iff c d).1 h with h | h <;> contradiction
  by_cases hb : b = 0
  · subst hb
    rw [(r_zero a).1, (r_zero a).2, Int.zero_mul, Int.zero_mul, Int.one_mul, (r_zero _).1, (r_zero _).2]
    exact ⟨(rn_zero_iff _ _).2 (Or.inl rfl), rd_one_of rfl⟩
  · have h1 := r_val a b hb
    have h2 := r_val c d hd
    refine r_same (mul_ne (by have := rd_pos a b; omega) hn) (mul_ne hb hc) ?_
    calc rn a b * rd c d * (b * c) = (rn a b * b) * (c * rd c d) := by grind
      _ = (a * rd a b) * (rn c d * d) := by rw [h1, ← h2]
      _ = a * d * (rd a b * rn c d) := by grind
end Go.Proofs.Ytplmfdgdbolcaaa
