/-
  Rounding, whole numbers.
-/
import Derived.Test.YtgjkgmlcfieodaaRfrac3
import Derived.Test.YtgjkgmlcfieodaaFrM
set_option linter.unusedVariables false
set_option linter.unusedSimpArgs false
namespace Go.Proofs.Ytgjkgmlcfieodaa
section
open Go.RowKit

theorem dm_u (a b : Int) : dmQ a b = un a b / ud a b := by
  rcases Int.lt_trichotomy b 0 with h | h | h
  · rw [un_neg h, ud_neg h]; unfold dmQ; rw [if_neg (by omega), if_neg (by omega)]
  · subst h; rw [un_zero, ud_zero]; rfl
  · rw [un_pos h, ud_pos_ h, dmQ_pos h]
theorem dm_r (a b : Int) : dmQ (rn a b) (rd a b) = dmQ a b := by
  rw [dmQ_pos (rd_pos a b), dm_u]
  have h1 := rn_mul a b
  have h2 := rd_mul a b
  have h3 := ug_pos a b
  generalize Int.gcd (un a b) (ud a b) = k at h1 h2 h3
  rw [← h1, ← h2, Int.mul_ediv_mul_of_pos_left _ _ (by omega)]
/-- The lowest bit, as the model has it. -/
def oddB (z : Int) : Bool := if z = 0 then false else (bits BinOp.and IntKind.u32 ((digs z.natAbs).getD 0 0 : Nat) 1 == 1)

set_option maxHeartbeats 4000000 in
set_option maxRecDepth 100000 in
theorem floor_at {w : World} {s1 s2 : Bool} {A1 A2 : Option Addr} {n1 c1 n2 c2 : Nat} {a b : Int} (h1 : IntAt w s1 A1 n1 c1 a) (h2 : IntAt w s2 A2 n2 c2 b) :
    Calls Try.prog 16 #[.agg #[.bool s1, .slice A1 n1 c1, .bool s2, .slice A2 n2 c2]] w (RetZ w (dmQ a b)) := by
  have H0 := ((((St.start w).addI h1).addI h2).new 26 (Plains.four s1 A1 n1 c1 s2 A2 n2 c2)).new 24 (Plains.two false none 0 0)
  simp only [World.size_alloc] at H0
  have HH := Lib.hid H0
  clear H0 h1 h2
  obtain ⟨x, HX⟩ : ∃ v, Hid (dmQ a b = v) := ⟨_, rfl⟩
  rw [HX.out]
  go_enter Try.func16, Try.ntmps16
  go_wp2_with (first
    | (go_at_call 40; have K := HH.out; clear HH; have i1 := K.ints.2.1.i; have i2 := K.ints.1.i; (with_reducible refine (quotient_at i1 i2).mono ?_); rw [HX.out]; rintro e wa ⟨B1, m1, k1, rfl, d1, u1, v1, ga⟩; have Ka := (K.call ga).add (CanAt.mk_ d1 u1 v1); obtain ⟨⟨q0, q1⟩, _⟩ := Ka.facts; obtain ⟨f0, f1⟩ := Ka.free (i := 0) rfl)
    | fail)
  have K4 := Ka.put 0 rfl (decide (x < 0)) B1 m1 k1
  simp only [List.set] at K4
  obtain ⟨⟨r0, r1⟩, _⟩ := K4.facts
  exact bodyPost_ret (v := .agg #[.bool (decide (x < 0)), .slice B1 m1 k1]) (by simp [results, Try.results16, go_sem, r0, r1]) rfl (RetZ.of_st K4)

set_option maxHeartbeats 4000000 in
set_option maxRecDepth 100000 in
theorem ceil_at {w : World} {s1 s2 : Bool} {A1 A2 : Option Addr} {n1 c1 n2 c2 : Nat} {a b : Int} (h1 : IntAt w s1 A1 n1 c1 a) (h2 : IntAt w s2 A2 n2 c2 b) (za : Sz a 900) (zb : Sz b 900) :
    Calls Try.prog 14 #[.agg #[.bool s1, .slice A1 n1 c1, .bool s2, .slice A2 n2 c2]] w (RetZ w (-dmQ (-a) b)) := by
  have H0 := ((((St.start w).addI h1).addI h2).new 26 (Plains.four s1 A1 n1 c1 s2 A2 n2 c2)).new 24 (Plains.two false none 0 0)
  simp only [World.size_alloc] at H0
  have HH := Lib.hid H0
  clear H0 h1 h2
  obtain ⟨a', HA⟩ : ∃ v, Hid (-a = v) := ⟨_, rfl⟩
  have za' : Sz a' 900 := by rw [← HA.out]; exact za.neg
  have ka := za'.ok
  rw [HA.out]
  obtain ⟨q, HQ⟩ : ∃ v, Hid (dmQ a' b = v) := ⟨_, rfl⟩
  have kq : (digs q.natAbs).length ≤ 1000000 := by rw [← HQ.out, dm_u]; exact (Sz.le (y := a') za' (Nat.le_trans (Int.natAbs_ediv_le_natAbs _ _) (un_abs a' b))).ok
  rw [HQ.out]
  obtain ⟨x, HX⟩ : ∃ v, Hid (-q = v) := ⟨_, rfl⟩
  rw [HX.out]
  go_enter Try.func14, Try.ntmps14
  go_upto_region 1 with fail
  have Kd := HH.out.drew
  clear HH
  obtain ⟨_, ⟨p0, p1, p2, p3⟩, _⟩ := Kd.facts
  obtain ⟨z1, z2⟩ := Kd.ne 0 1 rfl rfl (by decide)
  have i1 := Kd.ints.2.1.i
  go_region_held3 (fun w' => w'.cell? ⟨w.heap.size, 0, none⟩ = some (.bool s1) ∧ w'.cell? ⟨w.heap.size, 1, none⟩ = some (.slice A1 n1 c1) ∧ w'.cell? ⟨w.heap.size, 2, none⟩ = some (.bool s2) ∧ w'.cell? ⟨w.heap.size, 3, none⟩ = some (.slice A2 n2 c2))
    (go_keep)
    (first
      | (go_at_call_of 39 (Value.agg #[Value.bool s1, Value.slice A1 n1 c1]); (with_reducible refine (negate_at i1).mono ?_); rw [HA.out]; rintro e wa ⟨B1, m1, k1, rfl, d1, u1, v1, ga⟩; have Ka := (Kd.call ga).add (CanAt.mk_ d1 u1 v1); clear p0 p1 p2 p3; obtain ⟨_, ⟨p0, p1, p2, p3⟩, _⟩ := Ka.facts; have j1 := Ka.ints.1.ci ka; have j2 := Ka.ints.2.1.i)
      | (go_at_call 40; (with_reducible refine (quotient_at j1 j2).mono ?_); rw [HQ.out]; rintro e wb ⟨B2, m2, k2, rfl, d2, u2, v2, gb⟩; have Kb := (Ka.call gb).add (CanAt.mk_ d2 u2 v2); clear p0 p1 p2 p3; obtain ⟨_, ⟨p0, p1, p2, p3⟩, _⟩ := Kb.facts; have j3 := Kb.ints.1.ci kq)
      | (go_at_call 39; (with_reducible refine (negate_at j3).mono ?_); rw [HX.out]; rintro e wc ⟨B3, m3, k3, rfl, d3, u3, v3, gc⟩; have Kc := (Kb.call gc).add (CanAt.mk_ d3 u3 v3); clear p0 p1 p2 p3; obtain ⟨⟨q0, q1⟩, ⟨p0, p1, p2, p3⟩, _⟩ := Kc.facts; obtain ⟨f0, f1⟩ := Kc.free (i := 0) rfl)
      | fail)
  have K4 := Kc.put 0 rfl (decide (x < 0)) B3 m3 k3
  simp only [List.set] at K4
  obtain ⟨⟨r0, r1⟩, _⟩ := K4.facts
  go_wp2_with fail
  exact bodyPost_ret (v := .agg #[.bool (decide (x < 0)), .slice B3 m3 k3]) (by simp [results, Try.results14, go_sem, r0, r1]) rfl (RetZ.of_st K4)

theorem can_digit {w : World} {s : Bool} {A : Option Addr} {n c : Nat} {z : Int} (h : CanAt w s A n c z) (hn : 0 < n) : ∃ b off, A = some ⟨b, off, none⟩ ∧ b < w.heap.size ∧ w.cell? ⟨b, off, none⟩ = some (.int .u32 ((digs z.natAbs).getD 0 0 : Nat)) := by
  obtain ⟨b, off, e, hb, hc⟩ := h.2.1.at_ hn
  exact ⟨b, off, e, hb, hc 0 hn⟩
theorem odd_pos {w : World} {s : Bool} {A : Option Addr} {n c : Nat} {z : Int} (h : CanAt w s A n c z) (hn : 0 < n) : oddB z = (bits BinOp.and IntKind.u32 ((digs z.natAbs).getD 0 0 : Nat) 1 == 1) := by
  unfold oddB
  rw [if_neg (fun e => by rw [digs_len0 h e] at hn; omega)]
theorem odd_zero {w : World} {s : Bool} {A : Option Addr} {n c : Nat} {z : Int} (h : CanAt w s A n c z) (hn : n = 0) : oddB z = false := by
  unfold oddB
  by_cases hz : z = 0
  · rw [if_pos hz]
  · have := digs_lenp h hz; omega

end
section
open Go.RowKit

/-- How twice the rest compares with the divisor. -/
def ordV (a b : Int) : Int := cmpI (((dmR a b + dmR a b).natAbs : Nat) : Int) ((b.natAbs : Nat) : Int)
def upB (a b : Int) : Bool := decide (0 < ordV a b) || (ordV a b == 0 && oddB (dmQ a b))
def rdV (a b : Int) : Int := if upB a b then dmQ a b + 1 else dmQ a b
theorem cmpI_cases (a b : Int) : cmpI a b = -1 ∨ cmpI a b = 0 ∨ cmpI a b = 1 := by
  unfold cmpI; split
  · exact Or.inl rfl
  · split
    · exact Or.inr (Or.inr rfl)
    · exact Or.inr (Or.inl rfl)
theorem rdV_pos {a b : Int} (h : ordV a b = 1) : rdV a b = dmQ a b + 1 := by unfold rdV upB; rw [h]; simp
theorem rdV_odd {a b : Int} (h : ordV a b = 0) (ho : oddB (dmQ a b) = true) : rdV a b = dmQ a b + 1 := by unfold rdV upB; rw [h, ho]; simp
theorem rdV_even {a b : Int} (h : ordV a b = 0) (ho : oddB (dmQ a b) = false) : rdV a b = dmQ a b := by unfold rdV upB; rw [h, ho]; simp
theorem rdV_neg {a b : Int} (h : ordV a b = -1) : rdV a b = dmQ a b := by unfold rdV upB; rw [h]; simp
theorem dmR_abs (a b : Int) (hb : b ≠ 0) : (((dmR a b + dmR a b).natAbs : Nat) : Int) = 2 * (un a b - dmQ a b * ud a b) ∧ ((b.natAbs : Nat) : Int) = ud a b := by
  rcases Int.lt_trichotomy b 0 with h | h | h
  · rw [dm_u, un_neg h, ud_neg h]
    unfold dmR
    rw [if_neg (by omega), if_neg (by omega)]
    have h1 := Int.emod_nonneg (-a) (show -b ≠ 0 by omega)
    have h2 := Int.emod_add_mul_ediv (-a) (-b)
    have h3 : -b * (-a / -b) = -a / -b * -b := Int.mul_comm _ _
    omega
  · exact absurd h hb
  · rw [dm_u, un_pos h, ud_pos_ h]
    unfold dmR
    rw [if_neg (by omega), if_pos h]
    have h1 := Int.emod_nonneg a (show b ≠ 0 by omega)
    have h2 := Int.emod_add_mul_ediv a b
    have h3 : b * (a / b) = a / b * b := Int.mul_comm _ _
    omega
/-- What the reference compares. -/
def refV (a b : Int) : Int := cmpI (rn (rn (aN a b (-dmQ a b) 1 * 2) (aD a b (-dmQ a b) 1 * 1)) (rd (aN a b (-dmQ a b) 1 * 2) (aD a b (-dmQ a b) 1 * 1)) * rd 1 1) (rn 1 1 * rd (rn (aN a b (-dmQ a b) 1 * 2) (aD a b (-dmQ a b) 1 * 1)) (rd (aN a b (-dmQ a b) 1 * 2) (aD a b (-dmQ a b) 1 * 1)))
theorem ref_ord (a b : Int) (hb : b ≠ 0) : refV a b = ordV a b := by
  unfold refV ordV
  generalize hq : dmQ a b = q
  have h2 := dmR_abs a b hb
  rw [hq] at h2
  rw [h2.1, h2.2, (r_r _ _).1, (r_r _ _).2]
  have p0 := ud_pos a b
  have e0 : Eqv (rn a b) (rd a b) (un a b) (ud a b) := by
    have := Eqv.r (un a b) (d := ud a b) (by omega)
    rwa [(r_u a b).1, (r_u a b).2] at this
  have e1 : Eqv (rn (-q) 1) (rd (-q) 1) (-q) 1 := Eqv.r (-q) (by decide)
  have e2 := ((aE a b (-q) 1).trans (e0.add e1)).mul (Eqv.refl 2 (d := 1) (by decide))
  have e3 := (Eqv.r (aN a b (-q) 1 * 2) (d := aD a b (-q) 1 * 1) (mul_ne (by have := aD_pos a b (-q) 1; omega) (by decide))).trans e2
  have e4 : Eqv (rn 1 1) (rd 1 1) 1 1 := Eqv.r 1 (by decide)
  rw [cmp_rep (rd_pos _ _) (rd_pos _ _) (show 0 < ud a b * 1 * 1 by omega) (by decide) e3 e4]
  congr 1
  · rw [Int.mul_one, Int.mul_one, Int.neg_mul]; omega
  · omega
theorem ref_zero (a : Int) : refV a 0 = -1 ∧ dmQ a 0 = 0 ∧ rdV a 0 = 0 := by
  have hq : dmQ a 0 = 0 := by unfold dmQ; rw [if_pos rfl]
  refine ⟨?_, hq, ?_⟩
  · unfold refV
    rw [hq]
    have e1 : aN a 0 (-0) 1 = 0 ∧ aD a 0 (-0) 1 = 1 := by unfold aN aD; rw [(r_zero a).1, (r_zero a).2]; decide +kernel
    rw [e1.1, e1.2]
    decide +kernel
  · refine (rdV_even ?_ ?_).trans hq
    · unfold ordV dmR; rw [if_pos rfl]; rfl
    · rw [hq]; rfl

end
section
open Go.RowKit

set_option maxHeartbeats 4000000 in
set_option maxRecDepth 100000 in
theorem rfloor_at {w : World} {s1 s2 : Bool} {A1 A2 : Option Addr} {n1 c1 n2 c2 : Nat} {a b : Int} (h1 : IntAt w s1 A1 n1 c1 a) (h2 : IntAt w s2 A2 n2 c2 b) (za : Sz a 1900) (zb : Sz b 1900) :
    Calls Try.prog 61 #[.agg #[.bool s1, .slice A1 n1 c1, .bool s2, .slice A2 n2 c2]] w (RetZ w (dmQ a b)) := by
  have H0 := ((((St.start w).addI h1).addI h2).new 26 (Plains.four s1 A1 n1 c1 s2 A2 n2 c2)).new 24 (Plains.two false none 0 0)
  simp only [World.size_alloc] at H0
  have HH := Lib.hid H0
  clear H0 h1 h2
  obtain ⟨x, HX⟩ : ∃ v, Hid (rn a b = v) := ⟨_, rfl⟩
  obtain ⟨y, HY⟩ : ∃ v, Hid (rd a b = v) := ⟨_, rfl⟩
  obtain ⟨q, HQ⟩ : ∃ v, Hid (dmQ a b = v) := ⟨_, rfl⟩
  have HQ2 : Hid (dmQ x y = q) := by unfold Hid; rw [← HX.out, ← HY.out, dm_r]; exact HQ.out
  obtain ⟨r, HR⟩ : ∃ v, Hid (dmR x y = v) := ⟨_, rfl⟩
  have zx : Sz x 2000 := by rw [← HX.out]; exact (sz_rn za).mono (by decide)
  have zy : Sz y 2000 := by rw [← HY.out]; exact (sz_rd zb (by decide)).mono (by decide)
  have kx := zx.ok
  have ky := zy.ok
  obtain ⟨er, HE⟩ : ∃ v, Hid (dmE y = v) := ⟨_, rfl⟩
  rw [HQ.out]
  go_enter Try.func61, Try.ntmps61
  go_upto_region 2 with (first
    | (go_at_call 27; have K := HH.out; clear HH; have i1 := K.ints.2.1.i; have i2 := K.ints.1.i; (with_reducible refine (reduce_at i1 i2 za zb).mono ?_); rw [HX.out, HY.out]; rintro e w1 ⟨B1, m1, k1, B2, m2, k2, rfl, d1, d2, g1⟩; have K1 := ((K.call g1).add d2).add d1; obtain ⟨_, ⟨p0, p1, p2, p3⟩, _⟩ := K1.facts; obtain ⟨f0, f1, f2, f3⟩ := K1.free (i := 1) rfl)
    | fail)
  have K2 := K1.put4 1 rfl (decide (x < 0)) B1 m1 k1 (decide (y < 0)) B2 m2 k2
  simp only [List.set] at K2
  clear K K1 i1 i2 p0 p1 p2 p3 f0 f1 f2 f3 d1 d2 g1
  generalize ((((w1.setCell ⟨w.heap.size, 0, none⟩ (.bool (decide (x < 0)))).setCell ⟨w.heap.size, 1, none⟩ (.slice B1 m1 k1)).setCell ⟨w.heap.size, 2, none⟩ (.bool (decide (y < 0)))).setCell ⟨w.heap.size, 3, none⟩ (.slice B2 m2 k2)) = W2 at K2 ⊢
  obtain ⟨_, ⟨p0, p1, p2, p3⟩, _⟩ := K2.facts
  have ix := K2.ints.1.ci kx
  have iy := K2.ints.2.1.ci ky
  go_upto_region 3 with (first
    | (go_at_call 55; (with_reducible refine (rdivMod_at ix iy zx zy).mono ?_); rw [HQ2.out, HR.out, HE.out]; rintro e w3 ⟨B3, m3, k3, B4, m4, k4, rfl, d3, u3, v3, d4, u4, v4, g3⟩; have K3 := ((((K2.call g3).add (CanAt.mk_ d4 u4 v4)).add (CanAt.mk_ d3 u3 v3)).new 24 (Plains.two (decide (q < 0)) B3 m3 k3)).new 24 (Plains.two (decide (r < 0)) B4 m4 k4))
    | fail)
  simp only [World.size_alloc] at K3
  obtain ⟨_, ⟨o0, o1⟩, ⟨f4, f5⟩, _⟩ := K3.facts
  obtain ⟨f0, f1⟩ := K3.free (i := 2) rfl
  have K4 := K3.put 2 rfl (decide (q < 0)) B3 m3 k3
  simp only [List.set] at K4
  obtain ⟨_, _, ⟨r0, r1⟩, _⟩ := K4.facts
  go_wp2_with fail
  exact bodyPost_ret (v := .agg #[.bool (decide (q < 0)), .slice B3 m3 k3]) (by simp [results, Try.results61, go_sem, r0, r1]) rfl (RetZ.of_st K4)

set_option maxHeartbeats 4000000 in
set_option maxRecDepth 100000 in
theorem whole_any (k : Int) (h1 : -9223372036854775808 ≤ k) (h2 : k ≤ 9223372036854775807) (w : World) :
    Calls Try.prog 30 #[.int .i64 k] w (RetFr w (rn k 1) (rd k 1)) := by
  have H0 := (St.start w).new 26 (Plains.four false none 0 0 false none 0 0)
  have HH := Lib.hid H0
  clear H0
  have zk := (sz_i64 h1 h2).mono (show 2 ≤ 1900 by decide)
  have kk := zk.ok
  obtain ⟨x, HX⟩ : ∃ v, Hid (rn k 1 = v) := ⟨_, rfl⟩
  obtain ⟨y, HY⟩ : ∃ v, Hid (rd k 1 = v) := ⟨_, rfl⟩
  rw [HX.out, HY.out]
  go_enter Try.func30, Try.ntmps30
  go_wp2_with (first
    | (go_at_call 60; have K := HH.out; clear HH; (with_reducible refine (rfromInt64_any k h1 h2 _).mono ?_); rintro e w1 ⟨B1, m1, k1, rfl, d1, u1, v1, g1⟩; have K1 := (K.call g1).add (CanAt.mk_ d1 u1 v1); have ik := K1.ints.1.ci kk)
    | (go_at_call 59; (with_reducible refine (rfromInt_at ik zk).mono ?_); rw [HX.out, HY.out]; rintro e w2 ⟨B2, m2, k2, B3, m3, k3, rfl, d2, d3, g2⟩; have K2 := ((K1.call g2).add d3).add d2; obtain ⟨⟨q0, q1, q2, q3⟩, _⟩ := K2.facts; obtain ⟨f0, f1, f2, f3⟩ := K2.free (i := 0) rfl)
    | fail)
  have K4 := K2.put4 0 rfl (decide (x < 0)) B2 m2 k2 (decide (y < 0)) B3 m3 k3
  simp only [List.set] at K4
  obtain ⟨⟨r0, r1, r2, r3⟩, _⟩ := K4.facts
  exact bodyPost_ret (v := .agg #[.bool (decide (x < 0)), .slice B2 m2 k2, .bool (decide (y < 0)), .slice B3 m3 k3]) (by simp [results, Try.results30, go_sem, r0, r1, r2, r3]) rfl (RetFr.of_st K4)
theorem r_int (k : Int) : rn k 1 = k ∧ rd k 1 = 1 := r_self (by decide) (by rw [Int.gcd_one])
theorem r_cases (a b : Int) : (refV a b = 1 ∧ rdV a b = dmQ a b + 1) ∨ (refV a b = 0 ∧ oddB (dmQ a b) = true ∧ rdV a b = dmQ a b + 1) ∨ (refV a b = 0 ∧ oddB (dmQ a b) = false ∧ rdV a b = dmQ a b) ∨ (refV a b = -1 ∧ rdV a b = dmQ a b) := by
  by_cases hb : b = 0
  · subst hb
    have h := ref_zero a
    exact Or.inr (Or.inr (Or.inr ⟨h.1, h.2.2.trans h.2.1.symm⟩))
  · rw [ref_ord a b hb]
    rcases cmpI_cases (((dmR a b + dmR a b).natAbs : Nat) : Int) ((b.natAbs : Nat) : Int) with h | h | h
    · exact Or.inr (Or.inr (Or.inr ⟨h, rdV_neg h⟩))
    · cases ho : oddB (dmQ a b) with
      | true => exact Or.inr (Or.inl ⟨h, rfl, rdV_odd h ho⟩)
      | false => exact Or.inr (Or.inr (Or.inl ⟨h, rfl, rdV_even h ho⟩))
    · exact Or.inl ⟨h, rdV_pos h⟩
end
end Go.Proofs.Ytgjkgmlcfieodaa

