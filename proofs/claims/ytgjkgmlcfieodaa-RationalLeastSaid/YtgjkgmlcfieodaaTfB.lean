/-
  The simplest fraction of an interval, in the reference's steps: mathematics.
-/
import Derived.Test.YtgjkgmlcfieodaaTfA
import Derived.Test.YtgjkgmlcfieodaaFrcC
set_option linter.unusedVariables false
set_option linter.unusedSimpArgs false
namespace Go.Proofs.Ytgjkgmlcfieodaa

theorem cop_of {a b : Int} (h : Int.gcd a b = 1) {x : Int} (h1 : x ∣ a) (h2 : x ∣ b) : x ∣ 1 := by
  have := Int.dvd_coe_gcd h1 h2
  rw [h] at this
  exact this
theorem gcd_of {a b : Int} (h : ∀ x : Int, x ∣ a → x ∣ b → x ∣ 1) : Int.gcd a b = 1 := by
  have h1 := h _ (Int.gcd_dvd_left a b) (Int.gcd_dvd_right a b)
  have h2 := Int.natAbs_dvd_natAbs.2 h1
  simpa using h2
theorem gcd_rest {c d : Int} (h : Int.gcd c d = 1) : Int.gcd (c % d) d = 1 := by
  refine gcd_of fun x h1 h2 => cop_of h ?_ h2
  have e := Int.mul_ediv_add_emod c d
  rw [← e]
  exact Int.dvd_add (Int.dvd_mul_of_dvd_left h2) h1
theorem gcd_swap {a b : Int} (h : Int.gcd a b = 1) : Int.gcd b a = 1 := by rw [Int.gcd_comm]; exact h
theorem cei_eq {a b : Int} (hb : 0 < b) : cei a b = if a % b = 0 then a / b else a / b + 1 := by
  have h1 := cei_lo (a := a) hb
  have h2 := cei_hi (a := a) hb
  have e := Int.mul_ediv_add_emod a b
  have r0 := Int.emod_nonneg a (show b ≠ 0 by omega)
  have r1 := Int.emod_lt_of_pos a hb
  generalize a / b = q at *
  generalize a % b = r at *
  generalize cei a b = m at *
  have e' : q * b + r = a := by rw [Int.mul_comm q b]; exact e
  have g1 : q ≤ m := by
    apply Classical.byContradiction; intro hn
    have : m * b ≤ (q - 1) * b := Int.mul_le_mul_of_nonneg_right (by omega) (by omega)
    rw [Int.sub_mul] at this; omega
  split
  · rename_i hr
    have : m * b < (q + 1) * b := by rw [Int.add_mul]; omega
    have := Int.lt_of_mul_lt_mul_right this (by omega)
    omega
  · rename_i hr
    have : m * b < (q + 2) * b := by rw [Int.add_mul]; omega
    have := Int.lt_of_mul_lt_mul_right this (by omega)
    have : q * b < m * b := by omega
    have := Int.lt_of_mul_lt_mul_right this (by omega)
    omega
/-- A sum of canonical pairs whose canonical form is known. -/
theorem sum_self {a b c d x y : Int} (hb : 0 < b) (hd : 0 < d) (h1 : Int.gcd a b = 1) (h2 : Int.gcd c d = 1) (hy : 0 < y) (h3 : Int.gcd x y = 1) (h : x * (b * d) = (a * d + c * b) * y) : aN a b c d = x ∧ aD a b c d = y := by
  unfold aN aD
  rw [(r_self hb h1).1, (r_self hb h1).2, (r_self hd h2).1, (r_self hd h2).2]
  have := r_only (z := a * d + c * b) (d := b * d) (by have := Int.mul_pos hb hd; omega) hy h3 h
  exact ⟨this.1.symm, this.2.symm⟩
theorem rec_self {x y : Int} (hx : 0 < x) (hy : 0 < y) (h : Int.gcd x y = 1) : dvN 1 1 x y = y ∧ dvD 1 1 x y = x ∧ dvE x y = 0 := by
  unfold dvN dvD dvE
  have hn : ¬ (x = 0 ∨ y = 0) := by omega
  rw [if_neg hn, if_neg hn, if_neg hn, Int.one_mul, Int.one_mul]
  have := r_self hx (gcd_swap h)
  exact ⟨this.1, this.2, rfl⟩
theorem one_self : rn 1 1 = 1 ∧ rd 1 1 = 1 := r_self (by decide) (by decide)
theorem whole_self (q : Int) : rn q 1 = q ∧ rd q 1 = 1 := r_self (by decide) (by rw [Int.gcd_one])
theorem next_self (q : Int) : aN q 1 1 1 = q + 1 ∧ aD q 1 1 1 = 1 :=
  sum_self (by decide) (by decide) (by rw [Int.gcd_one]) (by decide) (by decide) (by rw [Int.gcd_one]) (by omega)
theorem rest_self {c d q : Int} (hd : 0 < d) (h : Int.gcd c d = 1) (hq : c / d = q) : aN c d (-q) 1 = c % d ∧ aD c d (-q) 1 = d := by
  refine sum_self hd (by decide) h (by rw [Int.gcd_one]) hd (gcd_rest h) ?_
  have e := Int.mul_ediv_add_emod c d
  rw [hq] at e
  have : c % d = c - d * q := by omega
  rw [this]; grind
theorem back_self {q P Q : Int} (hp : 0 < P) (h : Int.gcd P Q = 1) : aN q 1 Q P = q * P + Q ∧ aD q 1 Q P = P := by
  refine sum_self (by decide) hp (by rw [Int.gcd_one]) (gcd_swap h) hp (gcd_of fun x h1 h2 => cop_of h h2 ?_) (by grind)
  have h3 : x ∣ q * P := Int.dvd_mul_of_dvd_right h2
  have := Int.dvd_sub h1 h3
  rwa [show q * P + Q - q * P = Q by omega] at this
theorem Simp4.gcd {a b c d p q : Int} (h : Simp4 a b c d p q) : Int.gcd p q = 1 := gcd_of h.cop
/-- The result is no greater than the lower end. -/
theorem Simp4.le_lo {a b c d p q : Int} (h : Simp4 a b c d p q) (hp : Pos4 a b c d) : p ≤ a ∧ q ≤ b := h.min a b hp.pa hp.pb (Int.le_refl _) hp.le

/-- What a step of the reference computes. -/
structure SpS (k : Nat) (a b c d q : Int) : Prop where
  p4 : Pos4 a b c d
  g1 : Int.gcd a b = 1
  g2 : Int.gcd c d = 1
  hq : a / b = q
theorem SpS.cmp1 {k : Nat} {a b c d q : Int} (h : SpS k a b c d q) : cmpI (rn q 1 * rd a b) (rn a b * rd q 1) = cmpI (q * b) a := by
  rw [(whole_self q).1, (whole_self q).2, (r_self h.p4.pb h.g1).1, (r_self h.p4.pb h.g1).2, Int.mul_one]
theorem SpS.cmp2 {k : Nat} {a b c d q : Int} (h : SpS k a b c d q) : cmpI (rn (q + 1) 1 * rd c d) (rn c d * rd (q + 1) 1) = cmpI ((q + 1) * d) c := by
  rw [(whole_self (q + 1)).1, (whole_self (q + 1)).2, (r_self h.p4.pd h.g2).1, (r_self h.p4.pd h.g2).2, Int.mul_one]
theorem SpS.eq {k : Nat} {a b c d q : Int} (h : SpS k a b c d q) : q * b + a % b = a := by
  have e := Int.mul_ediv_add_emod a b
  rw [h.hq, Int.mul_comm] at e
  exact e
theorem SpS.end1 {k : Nat} {a b c d q : Int} (h : SpS k a b c d q) (h0 : a % b = 0) : cmpI (q * b) a = 0 ∧ (simpl (k + 1) a b c d).1 = q ∧ (simpl (k + 1) a b c d).2 = 1 := by
  have e := h.eq
  have hc : cei a b = q := by rw [cei_eq h.p4.pb, if_pos h0]; exact h.hq
  refine ⟨cmpI_eq (by omega), ?_⟩
  have hm : cei a b * d ≤ c := by
    rw [hc]
    have h1 : (q * d) * b ≤ c * b := by
      have : (q * d) * b = a * d := by rw [← e, h0]; grind
      rw [this]; exact h.p4.le
    exact Int.le_of_mul_le_mul_right h1 h.p4.pb
  unfold simpl
  rw [if_pos hm]
  exact ⟨hc, rfl⟩
theorem SpS.ne1 {k : Nat} {a b c d q : Int} (h : SpS k a b c d q) (h0 : ¬ a % b = 0) : cmpI (q * b) a = -1 := by
  have e := h.eq
  have := Int.emod_nonneg a (show b ≠ 0 by have := h.p4.pb; omega)
  exact cmpI_lt (by omega)
theorem SpS.end2 {k : Nat} {a b c d q : Int} (h : SpS k a b c d q) (h0 : ¬ a % b = 0) (h1 : (q + 1) * d ≤ c) : cmpI ((q + 1) * d) c ≤ 0 ∧ (simpl (k + 1) a b c d).1 = q + 1 ∧ (simpl (k + 1) a b c d).2 = 1 := by
  have hc : cei a b = q + 1 := by rw [cei_eq h.p4.pb, if_neg h0, h.hq]
  refine ⟨?_, ?_⟩
  · unfold cmpI; split
    · decide
    · rw [if_neg (by omega)]; decide
  unfold simpl
  rw [hc, if_pos h1]
  exact ⟨rfl, rfl⟩
theorem SpS.ne2 {k : Nat} {a b c d q : Int} (h : SpS k a b c d q) (h1 : ¬ (q + 1) * d ≤ c) : cmpI ((q + 1) * d) c = 1 := cmpI_gt (by omega)
structure SpT (k : Nat) (a b c d q : Int) : Prop where
  s1 : aN c d (-q) 1 = c % d ∧ aD c d (-q) 1 = d
  s2 : aN a b (-q) 1 = a % b ∧ aD a b (-q) 1 = b
  t1 : dvN 1 1 (c % d) d = d ∧ dvD 1 1 (c % d) d = c % d ∧ dvE (c % d) d = 0
  t2 : dvN 1 1 (a % b) b = b ∧ dvD 1 1 (a % b) b = a % b ∧ dvE (a % b) b = 0
  p4 : Pos4 d (c % d) b (a % b)
  g1 : Int.gcd d (c % d) = 1
  g2 : Int.gcd b (a % b) = 1
  fu : c % d + a % b ≤ b + d - 1
  dc : c % d < d
  ba : a % b < b
theorem SpS.next {k : Nat} {a b c d q : Int} (h : SpS k a b c d q) (h0 : ¬ a % b = 0) (h1 : ¬ (q + 1) * d ≤ c) : SpT k a b c d q ∧ ¬ cei a b * d ≤ c := by
  have hc : cei a b = q + 1 := by rw [cei_eq h.p4.pb, if_neg h0, h.hq]
  have hm : ¬ cei a b * d ≤ c := by rw [hc]; exact h1
  obtain ⟨f1, f2, f3, f4, f5, f6, f7, f8, f9⟩ := floors h.p4 hm
  refine ⟨⟨rest_self h.p4.pd h.g2 (f1.trans h.hq), rest_self h.p4.pb h.g1 h.hq, rec_self f4 h.p4.pd (gcd_rest h.g2), rec_self f2 h.p4.pb (gcd_rest h.g1), h.p4.step hm, gcd_swap (gcd_rest h.g2), gcd_swap (gcd_rest h.g1), by omega, f5, f3⟩, hm⟩
structure SpU (k : Nat) (a b c d q P Q : Int) : Prop where
  v : dvN 1 1 P Q = Q ∧ dvD 1 1 P Q = P ∧ dvE P Q = 0
  f : aN q 1 Q P = (simpl (k + 1) a b c d).1 ∧ aD q 1 Q P = (simpl (k + 1) a b c d).2
  pd : 0 < P ∧ P ≤ d
  qc : 0 < Q ∧ Q ≤ c % d
theorem SpS.last {k : Nat} {a b c d q P Q : Int} (h : SpS k a b c d q) (h0 : ¬ a % b = 0) (h1 : ¬ (q + 1) * d ≤ c) (hk : b + d ≤ k + 1) (hP : (simpl k d (c % d) b (a % b)).1 = P) (hQ : (simpl k d (c % d) b (a % b)).2 = Q) : SpU k a b c d q P Q := by
  obtain ⟨ht, hm⟩ := h.next h0 h1
  have hs := simpl_ok k d (c % d) b (a % b) ht.p4 (by have := ht.fu; omega)
  rw [hP, hQ] at hs
  have hl := hs.le_lo ht.p4
  refine ⟨rec_self hs.pp hs.pq hs.gcd, ?_, ⟨hs.pp, hl.1⟩, ⟨hs.pq, hl.2⟩⟩
  have hb := back_self (q := q) hs.pp hs.gcd
  rw [hb.1, hb.2]
  unfold simpl
  rw [if_neg hm, hP, hQ, h.hq]
  exact ⟨rfl, rfl⟩
end Go.Proofs.Ytgjkgmlcfieodaa

