/-
  Rounding, whole numbers.
-/
import Derived.Test.YtjbmaoplcbhgfaaGreatRfrac3
import Derived.Test.YtjbmaoplcbhgfaaGreatFrM
set_option linter.unusedVariables false
set_option linter.unusedSimpArgs false
namespace Go.Proofs.YtjbmaoplcbhgfaaGreat
section
open Go.RowKit

theorem dm_u (a b : Int) : dmQ a b = un a b / ud a b := by
  rcases Int.lt_trichotomy b 0 with h | h | h
  · rw [un_neg h, ud_neg h]; unfold dmQ; rw [if_neg (by omega), if_neg (by omega)]
  · subst h; rw [un_zero, ud_zero]; rfl
  · rw [un_pos h, ud_pos_ h, dmQ_pos h]
theorem dm_r (a b : Int) : dmQ (rn a b) (rd a b) = dmQ a b := by
  rw [dmQ_pos (rd_pos a b), dm_u]
  have h1 := rn_mul a b
  have h2 := rd_mul a b
  have h3 := ug_pos a b
  generalize Int.gcd (un a b) (ud a b) = k at h1 h2 h3
  rw [← h1, ← h2, Int.mul_ediv_mul_of_pos_left _ _ (by omega)]
/-- The lowest bit, as the model has it. -/
def oddB (z : Int) : Bool := if z = 0 then false else (bits BinOp.and IntKind.u32 ((digs z.natAbs).getD 0 0 : Nat) 1 == 1)

theorem can_digit {w : World} {s : Bool} {A : Option Addr} {n c : Nat} {z : Int} (h : CanAt w s A n c z) (hn : 0 < n) : ∃ b off, A = some ⟨b, off, none⟩ ∧ b < w.heap.size ∧ w.cell? ⟨b, off, none⟩ = some (.int .u32 ((digs z.natAbs).getD 0 0 : Nat)) := by
  obtain ⟨b, off, e, hb, hc⟩ := h.2.1.at_ hn
  exact ⟨b, off, e, hb, hc 0 hn⟩
theorem odd_pos {w : World} {s : Bool} {A : Option Addr} {n c : Nat} {z : Int} (h : CanAt w s A n c z) (hn : 0 < n) : oddB z = (bits BinOp.and IntKind.u32 ((digs z.natAbs).getD 0 0 : Nat) 1 == 1) := by
  unfold oddB
  rw [if_neg (fun e => by rw [digs_len0 h e] at hn; omega)]
theorem odd_zero {w : World} {s : Bool} {A : Option Addr} {n c : Nat} {z : Int} (h : CanAt w s A n c z) (hn : n = 0) : oddB z = false := by
  unfold oddB
  by_cases hz : z = 0
  · rw [if_pos hz]
  · have := digs_lenp h hz; omega

end
section
open Go.RowKit

/-- How twice the rest compares with the divisor. -/
def ordV (a b : Int) : Int := cmpI (((dmR a b + dmR a b).natAbs : Nat) : Int) ((b.natAbs : Nat) : Int)
def upB (a b : Int) : Bool := decide (0 < ordV a b) || (ordV a b == 0 && oddB (dmQ a b))
def rdV (a b : Int) : Int := if upB a b then dmQ a b + 1 else dmQ a b
theorem cmpI_cases (a b : Int) : cmpI a b = -1 ∨ cmpI a b = 0 ∨ cmpI a b = 1 := by
  unfold cmpI; split
  · exact Or.inl rfl
  · split
    · exact Or.inr (Or.inr rfl)
    · exact Or.inr (Or.inl rfl)
theorem rdV_pos {a b : Int} (h : ordV a b = 1) : rdV a b = dmQ a b + 1 := by unfold rdV upB; rw [h]; simp
theorem rdV_odd {a b : Int} (h : ordV a b = 0) (ho : oddB (dmQ a b) = true) : rdV a b = dmQ a b + 1 := by unfold rdV upB; rw [h, ho]; simp
theorem rdV_even {a b : Int} (h : ordV a b = 0) (ho : oddB (dmQ a b) = false) : rdV a b = dmQ a b := by unfold rdV upB; rw [h, ho]; simp
theorem rdV_neg {a b : Int} (h : ordV a b = -1) : rdV a b = dmQ a b := by unfold rdV upB; rw [h]; simp
theorem dmR_abs (a b : Int) (hb : b ≠ 0) : (((dmR a b + dmR a b).natAbs : Nat) : Int) = 2 * (un a b - dmQ a b * ud a b) ∧ ((b.natAbs : Nat) : Int) = ud a b := by
  rcases Int.lt_trichotomy b 0 with h | h | h
  · rw [dm_u, un_neg h, ud_neg h]
    unfold dmR
    rw [if_neg (by omega), if_neg (by omega)]
    have h1 := Int.emod_nonneg (-a) (show -b ≠ 0 by omega)
    have h2 := Int.emod_add_mul_ediv (-a) (-b)
    have h3 : -b * (-a / -b) = -a / -b * -b := Int.mul_comm _ _
    omega
  · exact absurd h hb
  · rw [dm_u, un_pos h, ud_pos_ h]
    unfold dmR
    rw [if_neg (by omega), if_pos h]
    have h1 := Int.emod_nonneg a (show b ≠ 0 by omega)
    have h2 := Int.emod_add_mul_ediv a b
    have h3 : b * (a / b) = a / b * b := Int.mul_comm _ _
    omega
/-- What the reference compares. -/
def refV (a b : Int) : Int := cmpI (rn (rn (aN a b (-dmQ a b) 1 * 2) (aD a b (-dmQ a b) 1 * 1)) (rd (aN a b (-dmQ a b) 1 * 2) (aD a b (-dmQ a b) 1 * 1)) * rd 1 1) (rn 1 1 * rd (rn (aN a b (-dmQ a b) 1 * 2) (aD a b (-dmQ a b) 1 * 1)) (rd (aN a b (-dmQ a b) 1 * 2) (aD a b (-dmQ a b) 1 * 1)))
theorem ref_ord (a b : Int) (hb : b ≠ 0) : refV a b = ordV a b := by
  unfold refV ordV
  generalize hq : dmQ a b = q
  have h2 := dmR_abs a b hb
  rw [hq] at h2
  rw [h2.1, h2.2, (r_r _ _).1, (r_r _ _).2]
  have p0 := ud_pos a b
  have e0 : Eqv (rn a b) (rd a b) (un a b) (ud a b) := by
    have := Eqv.r (un a b) (d := ud a b) (by omega)
    rwa [(r_u a b).1, (r_u a b).2] at this
  have e1 : Eqv (rn (-q) 1) (rd (-q) 1) (-q) 1 := Eqv.r (-q) (by decide)
  have e2 := ((aE a b (-q) 1).trans (e0.add e1)).mul (Eqv.refl 2 (d := 1) (by decide))
  have e3 := (Eqv.r (aN a b (-q) 1 * 2) (d := aD a b (-q) 1 * 1) (mul_ne (by have := aD_pos a b (-q) 1; omega) (by decide))).trans e2
  have e4 : Eqv (rn 1 1) (rd 1 1) 1 1 := Eqv.r 1 (by decide)
  rw [cmp_rep (rd_pos _ _) (rd_pos _ _) (show 0 < ud a b * 1 * 1 by omega) (by decide) e3 e4]
  congr 1
  · rw [Int.mul_one, Int.mul_one, Int.neg_mul]; omega
  · omega
theorem ref_zero (a : Int) : refV a 0 = -1 ∧ dmQ a 0 = 0 ∧ rdV a 0 = 0 := by
  have hq : dmQ a 0 = 0 := by unfold dmQ; rw [if_pos rfl]
  refine ⟨?_, hq, ?_⟩
  · unfold refV
    rw [hq]
    have e1 : aN a 0 (-0) 1 = 0 ∧ aD a 0 (-0) 1 = 1 := by unfold aN aD; rw [(r_zero a).1, (r_zero a).2]; decide +kernel
    rw [e1.1, e1.2]
    decide +kernel
  · refine (rdV_even ?_ ?_).trans hq
    · unfold ordV dmR; rw [if_pos rfl]; rfl
    · rw [hq]; rfl

end
section
open Go.RowKit
set_option maxHeartbeats 4000000 in
set_option maxRecDepth 100000 in
theorem whole_any (k : Int) (h1 : -9223372036854775808 ≤ k) (h2 : k ≤ 9223372036854775807) (w : World) :
    Calls Tryz.prog 23 #[.int .i64 k] w (RetFr w (rn k 1) (rd k 1)) := by
  have H0 := (St.start w).new 28 (Plains.four false none 0 0 false none 0 0)
  have HH := Lib.hid H0
  clear H0
  have zk := (sz_i64 h1 h2).mono (show 2 ≤ 1900 by decide)
  have kk := zk.ok
  obtain ⟨x, HX⟩ : ∃ v, Hid (rn k 1 = v) := ⟨_, rfl⟩
  obtain ⟨y, HY⟩ : ∃ v, Hid (rd k 1 = v) := ⟨_, rfl⟩
  rw [HX.out, HY.out]
  go_enter Tryz.func23, Tryz.ntmps23
  go_wp2_with (first
    | (go_at_call 43; have K := HH.out; clear HH; (with_reducible refine (rfromInt64_any k h1 h2 _).mono ?_); rintro e w1 ⟨B1, m1, k1, rfl, d1, u1, v1, g1⟩; have K1 := (K.call g1).add (CanAt.mk_ d1 u1 v1); have ik := K1.ints.1.ci kk)
    | (go_at_call 42; (with_reducible refine (rfromInt_at ik zk).mono ?_); rw [HX.out, HY.out]; rintro e w2 ⟨B2, m2, k2, B3, m3, k3, rfl, d2, d3, g2⟩; have K2 := ((K1.call g2).add d3).add d2; obtain ⟨⟨q0, q1, q2, q3⟩, _⟩ := K2.facts; obtain ⟨f0, f1, f2, f3⟩ := K2.free (i := 0) rfl)
    | fail)
  have K4 := K2.put4 0 rfl (decide (x < 0)) B2 m2 k2 (decide (y < 0)) B3 m3 k3
  simp only [List.set] at K4
  obtain ⟨⟨r0, r1, r2, r3⟩, _⟩ := K4.facts
  exact bodyPost_ret (v := .agg #[.bool (decide (x < 0)), .slice B2 m2 k2, .bool (decide (y < 0)), .slice B3 m3 k3]) (by simp [results, Tryz.results23, go_sem, r0, r1, r2, r3]) rfl (RetFr.of_st K4)
theorem r_int (k : Int) : rn k 1 = k ∧ rd k 1 = 1 := r_self (by decide) (by rw [Int.gcd_one])
theorem r_cases (a b : Int) : (refV a b = 1 ∧ rdV a b = dmQ a b + 1) ∨ (refV a b = 0 ∧ oddB (dmQ a b) = true ∧ rdV a b = dmQ a b + 1) ∨ (refV a b = 0 ∧ oddB (dmQ a b) = false ∧ rdV a b = dmQ a b) ∨ (refV a b = -1 ∧ rdV a b = dmQ a b) := by
  by_cases hb : b = 0
  · subst hb
    have h := ref_zero a
    exact Or.inr (Or.inr (Or.inr ⟨h.1, h.2.2.trans h.2.1.symm⟩))
  · rw [ref_ord a b hb]
    rcases cmpI_cases (((dmR a b + dmR a b).natAbs : Nat) : Int) ((b.natAbs : Nat) : Int) with h | h | h
    · exact Or.inr (Or.inr (Or.inr ⟨h, rdV_neg h⟩))
    · cases ho : oddB (dmQ a b) with
      | true => exact Or.inr (Or.inl ⟨h, rfl, rdV_odd h ho⟩)
      | false => exact Or.inr (Or.inr (Or.inl ⟨h, rfl, rdV_even h ho⟩))
    · exact Or.inl ⟨h, rdV_pos h⟩
end
end Go.Proofs.YtjbmaoplcbhgfaaGreat

