/-
  Fractions: mathematics.
-/
import Derived.Test.YtgjkgmlcfieodaaCmpC
import Derived.Test.YtgjkgmlcfieodaaZops
set_option linter.unusedVariables false
set_option linter.unusedSimpArgs false
namespace Go.Proofs.Ytgjkgmlcfieodaa

/-- A pair with a positive second member, of the same value; 0 / 1 if the second member is 0. -/
def un (z d : Int) : Int := if d = 0 then 0 else if d < 0 then -z else z
def ud (z d : Int) : Int := if d = 0 then 1 else if d < 0 then -d else d
/-- The canonical form. -/
def rn (z d : Int) : Int := un z d / (Int.gcd (un z d) (ud z d) : Nat)
def rd (z d : Int) : Int := ud z d / (Int.gcd (un z d) (ud z d) : Nat)

theorem ud_pos (z d : Int) : 0 < ud z d := by unfold ud; split <;> (try split) <;> omega
theorem un_zero (z : Int) : un z 0 = 0 := by simp [un]
theorem ud_zero (z : Int) : ud z 0 = 1 := by simp [ud]
theorem un_neg {z d : Int} (h : d < 0) : un z d = -z := by unfold un; rw [if_neg (by omega), if_pos h]
theorem ud_neg {z d : Int} (h : d < 0) : ud z d = -d := by unfold ud; rw [if_neg (by omega), if_pos h]
theorem un_pos {z d : Int} (h : 0 < d) : un z d = z := by unfold un; rw [if_neg (by omega), if_neg (by omega)]
theorem ud_pos_ {z d : Int} (h : 0 < d) : ud z d = d := by unfold ud; rw [if_neg (by omega), if_neg (by omega)]
theorem un_abs (z d : Int) : (un z d).natAbs ≤ z.natAbs := by unfold un; split <;> (try split) <;> omega
theorem ud_abs (z d : Int) : (ud z d).natAbs ≤ d.natAbs + 1 := by unfold ud; split <;> (try split) <;> omega
theorem ug_pos (z d : Int) : 0 < Int.gcd (un z d) (ud z d) := Int.gcd_pos_iff.2 (Or.inr (by have := ud_pos z d; omega))
theorem rn_mul (z d : Int) : rn z d * (Int.gcd (un z d) (ud z d) : Nat) = un z d := Int.ediv_mul_cancel (Int.gcd_dvd_left ..)
theorem rd_mul (z d : Int) : rd z d * (Int.gcd (un z d) (ud z d) : Nat) = ud z d := Int.ediv_mul_cancel (Int.gcd_dvd_right ..)
theorem rd_pos (z d : Int) : 0 < rd z d := by
  have h1 := rd_mul z d
  have h2 := ud_pos z d
  have h3 := ug_pos z d
  rcases Int.lt_trichotomy (rd z d) 0 with h | h | h
  · have := Int.mul_neg_of_neg_of_pos h (show (0 : Int) < (Int.gcd (un z d) (ud z d) : Nat) by omega); omega
  · rw [h, Int.zero_mul] at h1; omega
  · exact h
theorem rn_gcd (z d : Int) : Int.gcd (rn z d) (rd z d) = 1 := Int.gcd_ediv_gcd_ediv_gcd (ug_pos z d)
theorem nabs_le_of_mul {a b : Int} {g : Nat} (h : a * (g : Int) = b) (hg : 0 < g) : a.natAbs ≤ b.natAbs := by
  rw [← h, Int.natAbs_mul, Int.natAbs_natCast]
  exact Nat.le_mul_of_pos_right _ hg
theorem rn_abs (z d : Int) : (rn z d).natAbs ≤ z.natAbs := Nat.le_trans (nabs_le_of_mul (rn_mul z d) (ug_pos z d)) (un_abs z d)
theorem rd_abs (z d : Int) : (rd z d).natAbs ≤ (ud z d).natAbs := nabs_le_of_mul (rd_mul z d) (ug_pos z d)
theorem dmQ_pos {x y : Int} (h : 0 < y) : dmQ x y = x / y := by unfold dmQ; rw [if_neg (by omega), if_pos h]
theorem rn_dm (z d : Int) : dmQ (un z d) (Int.gcd (un z d) (ud z d) : Nat) = rn z d := dmQ_pos (by have := ug_pos z d; omega)
theorem rd_dm (z d : Int) : dmQ (ud z d) (Int.gcd (un z d) (ud z d) : Nat) = rd z d := dmQ_pos (by have := ug_pos z d; omega)

theorem dvd_cop {a b d : Int} (h : b ∣ a * d) (hg : Int.gcd b a = 1) : b ∣ d := by
  have := (Int.dvd_mul_gcd_iff_dvd_mul (k := b) (n := d) (m := a)).2 (by rw [Int.mul_comm]; exact h)
  rw [hg] at this
  simpa using this
/-- Two canonical forms of one value are equal. -/
theorem canon_only {a b c d : Int} (hb : 0 < b) (hd : 0 < d) (hg : Int.gcd a b = 1) (hg' : Int.gcd c d = 1) (h : a * d = c * b) : a = c ∧ b = d := by
  have e1 : (Int.gcd a b : Int) = 1 := by rw [hg]; rfl
  have h1 : b ∣ d := by
    have : b ∣ a * d := ⟨c, by rw [h, Int.mul_comm]⟩
    exact dvd_cop this (by rw [Int.gcd_comm]; exact hg)
  have h2 : d ∣ b := by
    have : d ∣ c * b := ⟨a, by rw [← h, Int.mul_comm]⟩
    exact dvd_cop this (by rw [Int.gcd_comm]; exact hg')
  have h3 : b = d := Int.dvd_antisymm (by omega) (by omega) h1 h2
  subst h3
  exact ⟨Int.eq_of_mul_eq_mul_right (by omega) h, rfl⟩
theorem un_ud (z d : Int) (hd : d ≠ 0) : un z d * d = z * ud z d := by
  unfold un ud
  rw [if_neg hd, if_neg hd]
  split
  · rw [Int.neg_mul, Int.mul_neg]
  · rfl
theorem r_val (z d : Int) (hd : d ≠ 0) : rn z d * d = z * rd z d := by
  have h1 := rn_mul z d
  have h2 := rd_mul z d
  have h3 := ug_pos z d
  have h4 := un_ud z d hd
  refine Int.eq_of_mul_eq_mul_right (a := ((Int.gcd (un z d) (ud z d) : Nat) : Int)) (by omega) ?_
  rw [Int.mul_right_comm, h1, Int.mul_assoc, h2]
  exact h4
/-- The canonical form is known by its value. -/
theorem r_only {z d a b : Int} (hd : d ≠ 0) (hb : 0 < b) (hg : Int.gcd a b = 1) (h : a * d = z * b) : a = rn z d ∧ b = rd z d := by
  refine canon_only hb (rd_pos z d) hg (rn_gcd z d) ?_
  have h1 := r_val z d hd
  refine Int.eq_of_mul_eq_mul_right hd ?_
  calc a * rd z d * d = a * d * rd z d := Int.mul_right_comm _ _ _
    _ = z * b * rd z d := by rw [h]
    _ = z * rd z d * b := Int.mul_right_comm _ _ _
    _ = rn z d * d * b := by rw [h1]
    _ = rn z d * b * d := Int.mul_right_comm _ _ _
theorem r_same {z d z' d' : Int} (hd : d ≠ 0) (hd' : d' ≠ 0) (h : z * d' = z' * d) : rn z d = rn z' d' ∧ rd z d = rd z' d' := by
  refine r_only hd' (rd_pos z d) (rn_gcd z d) ?_
  have h1 := r_val z d hd
  refine Int.eq_of_mul_eq_mul_right hd ?_
  rw [Int.mul_right_comm, h1, Int.mul_right_comm, h, Int.mul_right_comm]
theorem r_zero (z : Int) : rn z 0 = 0 ∧ rd z 0 = 1 := by
  have e : Int.gcd 0 1 = 1 := rfl
  constructor
  · unfold rn; rw [un_zero, ud_zero, e]; rfl
  · unfold rd; rw [un_zero, ud_zero, e]; rfl
theorem r_self {a b : Int} (hb : 0 < b) (hg : Int.gcd a b = 1) : rn a b = a ∧ rd a b = b := by
  obtain ⟨h1, h2⟩ := r_only (z := a) (d := b) (by omega) hb hg rfl
  exact ⟨h1.symm, h2.symm⟩
theorem r_r (z d : Int) : rn (rn z d) (rd z d) = rn z d ∧ rd (rn z d) (rd z d) = rd z d := r_self (rd_pos z d) (rn_gcd z d)
theorem r_u (z d : Int) : rn (un z d) (ud z d) = rn z d ∧ rd (un z d) (ud z d) = rd z d := by
  have h := ud_pos z d
  unfold rn rd
  rw [un_pos h, ud_pos_ h]
  exact ⟨rfl, rfl⟩
/-- Euclid's step in machine words. -/
theorem gcd_tmod (a b : Int) : Int.gcd b (a.tmod b) = Int.gcd a b := by
  rw [Int.gcd_comm a b]
  have h := Int.tmod_add_mul_tdiv a b
  have : a.tmod b = a + b * (-(a.tdiv b)) := by rw [Int.mul_neg]; omega
  rw [this, Int.gcd_add_mul_left_right]

/-- The sum of the values of two pairs, in canonical form. -/
def aN (a b c d : Int) : Int := rn (rn a b * rd c d + rn c d * rd a b) (rd a b * rd c d)
def aD (a b c d : Int) : Int := rd (rn a b * rd c d + rn c d * rd a b) (rd a b * rd c d)

theorem mul_ne {a b : Int} (ha : a ≠ 0) (hb : b ≠ 0) : a * b ≠ 0 := fun h => (Int.mul_eq_zero.1 h).elim ha hb
/-- The sum of two pairs with positive second members. -/
theorem add_u (a b c d : Int) : rn (un a b * ud c d + un c d * ud a b) (ud a b * ud c d) = aN a b c d ∧ rd (un a b * ud c d + un c d * ud a b) (ud a b * ud c d) = aD a b c d := by
  have h1 := rn_mul a b
  have h2 := rd_mul a b
  have h3 := rn_mul c d
  have h4 := rd_mul c d
  have p1 := ud_pos a b
  have p2 := ud_pos c d
  have p3 := rd_pos a b
  have p4 := rd_pos c d
  unfold aN aD
  refine r_same (mul_ne (by omega) (by omega)) (mul_ne (by omega) (by omega)) ?_
  generalize ((Int.gcd (un a b) (ud a b) : Nat) : Int) = g at h1 h2
  generalize ((Int.gcd (un c d) (ud c d) : Nat) : Int) = k at h3 h4
  rw [← h1, ← h2, ← h3, ← h4]
  grind
theorem aD_pos (a b c d : Int) : 0 < aD a b c d := rd_pos _ _
theorem aN_gcd (a b c d : Int) : Int.gcd (aN a b c d) (aD a b c d) = 1 := rn_gcd _ _

/-- A divisor of both is 1 if it is prime to .. -/
theorem gcd_one_of_dvd {a b c : Int} (h : a ∣ b) (hg : Int.gcd b c = 1) : Int.gcd a c = 1 := by
  have := Int.gcd_dvd_gcd_of_dvd_left c h
  rw [hg] at this
  exact Nat.dvd_one.1 this
theorem gcd_mul_one {a b c : Int} (h : Int.gcd a b = 1) (h' : Int.gcd a c = 1) : Int.gcd a (b * c) = 1 := by
  have := Int.gcd_mul_right_dvd_mul_gcd a b c
  rw [h, h'] at this
  exact Nat.dvd_one.1 this
/-- The way of addCanonical: g the divisor of both denominators, t the numerator over the least one. -/
structure AddC (a b c d g e f t h x y : Int) : Prop where
  g0 : 0 < g
  hb : b = e * g
  hd : d = f * g
  ef : Int.gcd e f = 1
  tt : a * f + c * e = t
  h0 : 0 < h
  hh : ((Int.gcd t g : Nat) : Int) = h
  hx : x * h = t
  hy : y * h = d
theorem AddC.end_ {a b c d g e f t h x y : Int} (H : AddC a b c d g e f t h x y) (hb0 : 0 < b) (hd0 : 0 < d) (ha : Int.gcd a b = 1) (hc : Int.gcd c d = 1) :
    x = rn (a * d + c * b) (b * d) ∧ e * y = rd (a * d + c * b) (b * d) := by
  obtain ⟨g0, hb, hd, ef, tt, h0, hh, hx, hy⟩ := H
  obtain ⟨k, hk⟩ : h ∣ g := by rw [← hh]; exact Int.gcd_dvd_right ..
  have hy2 : y = f * k := by
    refine Int.eq_of_mul_eq_mul_right (a := h) (by omega) ?_
    rw [hy, hd, hk]; grind
  have e0 : 0 < e := by
    rcases Int.lt_trichotomy e 0 with h | h | h
    · have := Int.mul_neg_of_neg_of_pos h g0; omega
    · rw [h, Int.zero_mul] at hb; omega
    · exact h
  have y0 : 0 < y := by
    rcases Int.lt_trichotomy y 0 with h1 | h1 | h1
    · have := Int.mul_neg_of_neg_of_pos h1 h0; omega
    · rw [h1, Int.zero_mul] at hy; omega
    · exact h1
  -- prime to e
  have te : Int.gcd t e = 1 := by
    have h1 : Int.gcd a e = 1 := by rw [Int.gcd_comm]; exact gcd_one_of_dvd ⟨g, hb⟩ (by rw [Int.gcd_comm]; exact ha)
    have h2 : Int.gcd e (a * f) = 1 := gcd_mul_one (by rw [Int.gcd_comm]; exact h1) ef
    rw [← tt, Int.gcd_comm]
    rw [Int.gcd_add_mul_right_right]
    exact h2
  have tf : Int.gcd t f = 1 := by
    have h1 : Int.gcd c f = 1 := by rw [Int.gcd_comm]; exact gcd_one_of_dvd ⟨g, hd⟩ (by rw [Int.gcd_comm]; exact hc)
    have h2 : Int.gcd f (c * e) = 1 := gcd_mul_one (by rw [Int.gcd_comm]; exact h1) (by rw [Int.gcd_comm]; exact ef)
    rw [← tt, Int.gcd_comm, Int.add_comm]
    rw [Int.gcd_add_mul_right_right]
    exact h2
  have xt : x ∣ t := ⟨h, hx.symm⟩
  have xk : Int.gcd x k = 1 := by
    have h1 : x = t / h := by rw [← hx, Int.mul_ediv_cancel _ (by omega)]
    have h2 : k = g / h := by rw [hk, Int.mul_ediv_cancel_left _ (by omega)]
    have := Int.gcd_ediv_gcd_ediv_gcd (i := t) (j := g) (by omega)
    rw [hh] at this
    rw [h1, h2]
    exact this
  refine r_only (mul_ne (by omega) (by omega)) (Int.mul_pos e0 y0) ?_ ?_
  · rw [hy2]
    exact gcd_mul_one (gcd_one_of_dvd xt te) (gcd_mul_one (gcd_one_of_dvd xt tf) xk)
  · rw [hy2, hb, hd, hk]
    rw [hk] at hb hd
    have h3 : a * f + c * e = x * h := by rw [tt, hx]
    have : x * (e * (h * k) * (f * (h * k))) = (x * h) * (e * f * h * k * k) := by grind
    rw [this, ← h3]
    grind

theorem cmpI_mul (x y : Int) {k : Int} (hk : 0 < k) : cmpI (x * k) (y * k) = cmpI x y := by
  have h1 : x * k < y * k ↔ x < y := ⟨fun h => Int.lt_of_mul_lt_mul_right h (by omega), fun h => Int.mul_lt_mul_of_pos_right h hk⟩
  have h2 : y * k < x * k ↔ y < x := ⟨fun h => Int.lt_of_mul_lt_mul_right h (by omega), fun h => Int.mul_lt_mul_of_pos_right h hk⟩
  unfold cmpI
  simp only [h1, h2]
theorem sgn_mulp (x : Int) {k : Int} (hk : 0 < k) : sgn (x * k) = sgn x := by
  have := cmpI_mul x 0 hk
  rw [Int.zero_mul] at this
  exact this
theorem sgn_neg_ (x : Int) : sgn (-x) = -sgn x := by
  unfold sgn cmpI
  rcases Int.lt_trichotomy x 0 with h | h | h
  · rw [if_neg (by omega), if_pos (by omega), if_pos h]; rfl
  · subst h; rfl
  · rw [if_pos (by omega), if_neg (by omega), if_pos h]
theorem sgn_un (a b : Int) : sgn (un a b) = sgn a * sgn b := by
  rcases Int.lt_trichotomy b 0 with h | h | h
  · rw [un_neg h, sgn_neg_, show sgn b = -1 from cmpI_lt h, Int.mul_neg, Int.mul_one]
  · subst h; rw [un_zero, show sgn 0 = 0 from rfl, Int.mul_zero]
  · rw [un_pos h, show sgn b = 1 from cmpI_gt h, Int.mul_one]
theorem sgn_rn (a b : Int) : sgn (rn a b) = sgn a * sgn b := by
  rw [← sgn_un, ← rn_mul a b, sgn_mulp _ (by have := ug_pos a b; omega)]
theorem cmp_same (a b c d : Int) : cmpI (un a b * ud c d) (un c d * ud a b) = cmpI (rn a b * rd c d) (rn c d * rd a b) := by
  have h1 := rn_mul a b
  have h2 := rd_mul a b
  have h3 := rn_mul c d
  have h4 := rd_mul c d
  have g1 := ug_pos a b
  have g2 := ug_pos c d
  generalize Int.gcd (un a b) (ud a b) = g at h1 h2 g1
  generalize Int.gcd (un c d) (ud c d) = k at h3 h4 g2
  have hp : (0 : Int) < (g : Int) * (k : Int) := Int.mul_pos (by omega) (by omega)
  rw [← cmpI_mul (rn a b * rd c d) (rn c d * rd a b) hp, ← h1, ← h2, ← h3, ← h4]
  congr 1 <;> grind
theorem neg_same (a b : Int) : rn (-a) b = -rn a b ∧ rd (-a) b = rd a b := by
  by_cases hb : b = 0
  · subst hb
    rw [(r_zero (-a)).1, (r_zero (-a)).2, (r_zero a).1, (r_zero a).2]; exact ⟨rfl, rfl⟩
  · have h := r_only (z := -a) (d := b) (a := -rn a b) (b := rd a b) hb (rd_pos a b) (by rw [Int.neg_gcd]; exact rn_gcd a b) (by rw [Int.neg_mul, Int.neg_mul, r_val a b hb])
    exact ⟨h.1.symm, h.2.symm⟩
theorem abs_same (a b : Int) : rn (a.natAbs : Int) (b.natAbs : Int) = ((rn a b).natAbs : Int) ∧ rd (a.natAbs : Int) (b.natAbs : Int) = rd a b := by
  by_cases hb : b = 0
  · subst hb
    rw [show ((0 : Int).natAbs : Int) = 0 from rfl, (r_zero _).1, (r_zero _).2, (r_zero a).1, (r_zero a).2]; exact ⟨rfl, rfl⟩
  · have h1 := congrArg Int.natAbs (r_val a b hb)
    rw [Int.natAbs_mul, Int.natAbs_mul] at h1
    have h2 : ((rd a b).natAbs : Int) = rd a b := by have := rd_pos a b; omega
    have h := r_only (z := (a.natAbs : Int)) (d := (b.natAbs : Int)) (a := ((rn a b).natAbs : Int)) (b := rd a b) (by omega) (rd_pos a b)
      (by have := rn_gcd a b; unfold Int.gcd at this ⊢; rw [Int.natAbs_natCast]; exact this)
      (by rw [← h2, ← Int.natCast_mul, ← Int.natCast_mul, h1])
    exact ⟨h.1.symm, h.2.symm⟩
theorem add_r (a b c d : Int) : aN a b (rn c d) (rd c d) = aN a b c d ∧ aD a b (rn c d) (rd c d) = aD a b c d := by
  unfold aN aD
  rw [(r_r c d).1, (r_r c d).2]; exact ⟨rfl, rfl⟩
theorem add_l (a b c d : Int) : aN (rn a b) (rd a b) c d = aN a b c d ∧ aD (rn a b) (rd a b) c d = aD a b c d := by
  unfold aN aD
  rw [(r_r a b).1, (r_r a b).2]; exact ⟨rfl, rfl⟩
theorem rn_zero_iff (c d : Int) : rn c d = 0 ↔ c = 0 ∨ d = 0 := by
  constructor
  · intro h
    have h1 := sgn_rn c d
    rw [h, show sgn 0 = 0 from rfl] at h1
    rcases Int.mul_eq_zero.1 h1.symm with h2 | h2
    · left; unfold sgn cmpI at h2; split at h2 <;> (try split at h2) <;> omega
    · right; unfold sgn cmpI at h2; split at h2 <;> (try split at h2) <;> omega
  · rintro (h | h)
    · subst h
      by_cases hd : d = 0
      · subst hd; exact (r_zero 0).1
      · have h1 := r_val 0 d hd
        rw [Int.zero_mul] at h1
        exact (Int.mul_eq_zero.1 h1).resolve_right hd
    · subst h; exact (r_zero c).1
theorem rd_one_of {c d : Int} (h : c = 0) : rd c d = 1 := by
  have h1 := (rn_zero_iff c d).2 (Or.inl h)
  have h2 := rn_gcd c d
  rw [h1, Int.gcd_zero_left] at h2
  have := rd_pos c d
  omega
theorem div_same {a b c d : Int} (hc : c ≠ 0) (hd : d ≠ 0) : rn (rn a b * rd c d) (rd a b * rn c d) = rn (a * d) (b * c) ∧ rd (rn a b * rd c d) (rd a b * rn c d) = rd (a * d) (b * c) := by
  have hn : rn c d ≠ 0 := fun h => by rcases (rn_zero_iff c d).1 h with h | h <;> contradiction
  by_cases hb : b = 0
  · subst hb
    rw [(r_zero a).1, (r_zero a).2, Int.zero_mul, Int.zero_mul, Int.one_mul, (r_zero _).1, (r_zero _).2]
    exact ⟨(rn_zero_iff _ _).2 (Or.inl rfl), rd_one_of rfl⟩
  · have h1 := r_val a b hb
    have h2 := r_val c d hd
    refine r_same (mul_ne (by have := rd_pos a b; omega) hn) (mul_ne hb hc) ?_
    calc rn a b * rd c d * (b * c) = (rn a b * b) * (c * rd c d) := by grind
      _ = (a * rd a b) * (rn c d * d) := by rw [h1, ← h2]
      _ = a * d * (rd a b * rn c d) := by grind

/-- Two pairs of one value. -/
def Eqv (n d m e : Int) : Prop := d ≠ 0 ∧ e ≠ 0 ∧ n * e = m * d
theorem Eqv.refl (n : Int) {d : Int} (h : d ≠ 0) : Eqv n d n d := ⟨h, h, rfl⟩
theorem Eqv.r (n : Int) {d : Int} (h : d ≠ 0) : Eqv (rn n d) (rd n d) n d := ⟨by have := rd_pos n d; omega, h, r_val n d h⟩
theorem Eqv.add {n d m e n' d' m' e' : Int} (h : Eqv n d m e) (h' : Eqv n' d' m' e') : Eqv (n * d' + n' * d) (d * d') (m * e' + m' * e) (e * e') := by
  obtain ⟨h1, h2, h3⟩ := h
  obtain ⟨h4, h5, h6⟩ := h'
  refine ⟨mul_ne h1 h4, mul_ne h2 h5, ?_⟩
  calc (n * d' + n' * d) * (e * e') = (n * e) * (d' * e') + (n' * e') * (d * e) := by grind
    _ = (m * d) * (d' * e') + (m' * d') * (d * e) := by rw [h3, h6]
    _ = (m * e' + m' * e) * (d * d') := by grind
theorem Eqv.mul {n d m e n' d' m' e' : Int} (h : Eqv n d m e) (h' : Eqv n' d' m' e') : Eqv (n * n') (d * d') (m * m') (e * e') := by
  obtain ⟨h1, h2, h3⟩ := h
  obtain ⟨h4, h5, h6⟩ := h'
  refine ⟨mul_ne h1 h4, mul_ne h2 h5, ?_⟩
  calc n * n' * (e * e') = (n * e) * (n' * e') := by grind
    _ = (m * d) * (m' * d') := by rw [h3, h6]
    _ = m * m' * (d * d') := by grind
theorem Eqv.trans {n d m e l f : Int} (h : Eqv n d m e) (h' : Eqv m e l f) : Eqv n d l f := by
  obtain ⟨h1, h2, h3⟩ := h
  obtain ⟨h4, h5, h6⟩ := h'
  refine ⟨h1, h5, Int.eq_of_mul_eq_mul_right h2 ?_⟩
  calc n * f * e = (n * e) * f := by grind
    _ = (m * f) * d := by rw [h3]; grind
    _ = l * d * e := by rw [h6]; grind
theorem Eqv.symm {n d m e : Int} (h : Eqv n d m e) : Eqv m e n d := ⟨h.2.1, h.1, h.2.2.symm⟩
theorem Eqv.same {n d m e : Int} (h : Eqv n d m e) : rn n d = rn m e ∧ rd n d = rd m e := r_same h.1 h.2.1 h.2.2
theorem rd_ne (a b : Int) : rd a b ≠ 0 := by have := rd_pos a b; omega
theorem mul_c (a b c d : Int) : rn (a * c) (b * d) = rn (rn a b * rn c d) (rd a b * rd c d) ∧ rd (a * c) (b * d) = rd (rn a b * rn c d) (rd a b * rd c d) := by
  by_cases hb : b = 0
  · subst hb
    rw [Int.zero_mul, (r_zero _).1, (r_zero _).2, (r_zero a).1, Int.zero_mul]
    exact ⟨((rn_zero_iff _ _).2 (Or.inl rfl)).symm, (r_zero _).2.trans (rd_one_of rfl).symm⟩
  · by_cases hd : d = 0
    · subst hd
      rw [Int.mul_zero, (r_zero _).1, (r_zero _).2, (r_zero c).1, Int.mul_zero]
      exact ⟨((rn_zero_iff _ _).2 (Or.inl rfl)).symm, (r_zero _).2.trans (rd_one_of rfl).symm⟩
    · exact ((Eqv.r a hb).mul (Eqv.r c hd)).symm.same
theorem aE (a b c d : Int) : Eqv (aN a b c d) (aD a b c d) (rn a b * rd c d + rn c d * rd a b) (rd a b * rd c d) := Eqv.r _ (mul_ne (rd_ne a b) (rd_ne c d))
theorem a_r (a b c d : Int) : rn (aN a b c d) (aD a b c d) = aN a b c d ∧ rd (aN a b c d) (aD a b c d) = aD a b c d := r_self (aD_pos a b c d) (aN_gcd a b c d)
/-- Distributivity. -/
theorem fld_dist (a b c d e f : Int) : aN (rn (a * c) (b * d)) (rd (a * c) (b * d)) (rn (a * e) (b * f)) (rd (a * e) (b * f)) = rn (a * aN c d e f) (b * aD c d e f) ∧
    aD (rn (a * c) (b * d)) (rd (a * c) (b * d)) (rn (a * e) (b * f)) (rd (a * e) (b * f)) = rd (a * aN c d e f) (b * aD c d e f) := by
  rw [(mul_c a b (aN c d e f) (aD c d e f)).1, (mul_c a b (aN c d e f) (aD c d e f)).2, (a_r c d e f).1, (a_r c d e f).2]
  rw [(mul_c a b c d).1, (mul_c a b c d).2, (mul_c a b e f).1, (mul_c a b e f).2]
  have p1 := rd_ne a b
  have p2 := rd_ne c d
  have p3 := rd_ne e f
  have hS := aE c d e f
  generalize aN c d e f = S at *
  generalize aD c d e f = T at *
  generalize rn a b = n1 at *
  generalize rd a b = d1 at *
  generalize rn c d = n2 at *
  generalize rd c d = d2 at *
  generalize rn e f = n3 at *
  generalize rd e f = d3 at *
  have h1 := (Eqv.r (n1 * n2) (mul_ne p1 p2)).add (Eqv.r (n1 * n3) (mul_ne p1 p3))
  have h2 := (Eqv.refl n1 p1).mul hS
  unfold aN aD
  rw [(r_r (n1 * n2) (d1 * d2)).1, (r_r (n1 * n2) (d1 * d2)).2, (r_r (n1 * n3) (d1 * d3)).1, (r_r (n1 * n3) (d1 * d3)).2]
  refine (h1.trans (Eqv.trans ?_ h2.symm)).same
  exact ⟨mul_ne (mul_ne p1 p2) (mul_ne p1 p3), mul_ne p1 (mul_ne p2 p3), by grind⟩
/-- Associativity. -/
theorem fld_assoc (a b c d e f : Int) : aN a b (aN c d e f) (aD c d e f) = aN (aN a b c d) (aD a b c d) e f ∧ aD a b (aN c d e f) (aD c d e f) = aD (aN a b c d) (aD a b c d) e f := by
  have p1 := rd_ne a b
  have p2 := rd_ne c d
  have p3 := rd_ne e f
  have h1 := (Eqv.refl (rn a b) p1).add (aE c d e f)
  have h2 := (aE a b c d).add (Eqv.refl (rn e f) p3)
  have e1 : aN a b (aN c d e f) (aD c d e f) = rn (rn a b * aD c d e f + aN c d e f * rd a b) (rd a b * aD c d e f) ∧ aD a b (aN c d e f) (aD c d e f) = rd (rn a b * aD c d e f + aN c d e f * rd a b) (rd a b * aD c d e f) := by
    rw [aN.eq_def a b (aN c d e f), aD.eq_def a b (aN c d e f), (a_r c d e f).1, (a_r c d e f).2]; exact ⟨rfl, rfl⟩
  have e2 : aN (aN a b c d) (aD a b c d) e f = rn (aN a b c d * rd e f + rn e f * aD a b c d) (aD a b c d * rd e f) ∧ aD (aN a b c d) (aD a b c d) e f = rd (aN a b c d * rd e f + rn e f * aD a b c d) (aD a b c d * rd e f) := by
    rw [aN.eq_def (aN a b c d), aD.eq_def (aN a b c d), (a_r a b c d).1, (a_r a b c d).2]; exact ⟨rfl, rfl⟩
  rw [e1.1, e1.2, e2.1, e2.2]
  refine (h1.trans (Eqv.trans ?_ h2.symm)).same
  generalize rn a b = n1 at *
  generalize rd a b = d1 at *
  generalize rn c d = n2 at *
  generalize rd c d = d2 at *
  generalize rn e f = n3 at *
  generalize rd e f = d3 at *
  exact ⟨mul_ne p1 (mul_ne p2 p3), mul_ne (mul_ne p1 p2) p3, by grind⟩
/-- The order by any two pairs with positive second members. -/
theorem cmp_rep {x y u v m e n f : Int} (hy : 0 < y) (hv : 0 < v) (he : 0 < e) (hf : 0 < f) (h1 : Eqv x y m e) (h2 : Eqv u v n f) : cmpI (x * v) (u * y) = cmpI (m * f) (n * e) := by
  have k1 : (0 : Int) < e * f := Int.mul_pos he hf
  have k2 : (0 : Int) < y * v := Int.mul_pos hy hv
  rw [← cmpI_mul (x * v) (u * y) k1, ← cmpI_mul (m * f) (n * e) k2]
  have a1 := h1.2.2
  have a2 := h2.2.2
  congr 1
  · calc x * v * (e * f) = (x * e) * (v * f) := by grind
      _ = m * f * (y * v) := by rw [a1]; grind
  · calc u * y * (e * f) = (u * f) * (y * e) := by grind
      _ = n * e * (y * v) := by rw [a2]; grind
theorem cmpI_add (x y z : Int) : cmpI (x + z) (y + z) = cmpI x y := by
  unfold cmpI
  have h1 : x + z < y + z ↔ x < y := by omega
  have h2 : y + z < x + z ↔ y < x := by omega
  simp only [h1, h2]
/-- Addition preserves the order. -/
theorem fld_ord (a b c d e f : Int) :
    cmpI (un (aN a b e f) (aD a b e f) * ud (aN c d e f) (aD c d e f)) (un (aN c d e f) (aD c d e f) * ud (aN a b e f) (aD a b e f)) = cmpI (un a b * ud c d) (un c d * ud a b) := by
  rw [cmp_same, cmp_same, (a_r a b e f).1, (a_r a b e f).2, (a_r c d e f).1, (a_r c d e f).2]
  have q1 := rd_pos a b
  have q2 := rd_pos c d
  have q3 := rd_pos e f
  rw [cmp_rep (aD_pos a b e f) (aD_pos c d e f) (Int.mul_pos q1 q3) (Int.mul_pos q2 q3) (aE a b e f) (aE c d e f)]
  generalize rn a b = n1 at *
  generalize rd a b = d1 at *
  generalize rn c d = n2 at *
  generalize rd c d = d2 at *
  generalize rn e f = n3 at *
  generalize rd e f = d3 at *
  rw [← cmpI_mul (n1 * d2) (n2 * d1) (Int.mul_pos q3 q3), ← cmpI_add (n1 * d2 * (d3 * d3)) (n2 * d1 * (d3 * d3)) (n3 * d1 * d2 * d3)]
  congr 1 <;> grind
/-- The quotient times the divisor. -/
theorem fld_div (a b c d : Int) (hc : c ≠ 0) (hd : d ≠ 0) :
    cmpI (un (rn (rn (a * d) (b * c) * c) (rd (a * d) (b * c) * d)) (rd (rn (a * d) (b * c) * c) (rd (a * d) (b * c) * d)) * ud a b) (un a b * ud (rn (rn (a * d) (b * c) * c) (rd (a * d) (b * c) * d)) (rd (rn (a * d) (b * c) * c) (rd (a * d) (b * c) * d))) = 0 := by
  rw [cmp_same, (r_r _ _).1, (r_r _ _).2]
  have e : rn (rn (a * d) (b * c) * c) (rd (a * d) (b * c) * d) = rn a b ∧ rd (rn (a * d) (b * c) * c) (rd (a * d) (b * c) * d) = rd a b := by
    by_cases hb : b = 0
    · subst hb
      rw [Int.zero_mul, (r_zero _).1, (r_zero _).2, Int.zero_mul, (r_zero a).1, (r_zero a).2]
      exact ⟨(rn_zero_iff _ _).2 (Or.inl rfl), rd_one_of rfl⟩
    · have h1 := (Eqv.r (a * d) (mul_ne hb hc)).mul (Eqv.refl c hd)
      refine (h1.trans (e := _) ?_).same
      exact ⟨mul_ne (mul_ne hb hc) hd, hb, by grind⟩
  rw [e.1, e.2]
  exact cmpI_eq rfl
end Go.Proofs.Ytgjkgmlcfieodaa

