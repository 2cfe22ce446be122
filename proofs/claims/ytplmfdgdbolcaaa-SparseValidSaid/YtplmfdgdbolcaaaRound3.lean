/-
  Rounding of fractions by the reference.
-/
import Derived.Test.YtplmfdgdbolcaaaRound2
set_option linter.unusedVariables false
set_option linter.unusedSimpArgs false
namespace Go.Proofs.Ytplmfdgdbolcaaa
open Go.RowKit

set_option maxHeartbeats 4000000 in
set_option maxRecDepth 100000 in
theorem rfloor_at {w : World} {s1 s2 : Bool} {A1 A2 : Option Addr} {n1 c1 n2 c2 : Nat} {a b : Int} (h1 : IntAt w s1 A1 n1 c1 a) (h2 : IntAt w s2 A2 n2 c2 b) (za : Sz a 1900) (zb : Sz b 1900) :
    Calls Try.prog 58 #[.agg #[.bool s1, .slice A1 n1 c1, .bool s2, .slice A2 n2 c2]] w (RetZ w (dmQ a b)) := by
  have H0 := ((((St.start w).addI h1).addI h2).new 42 (Plains.four s1 A1 n1 c1 s2 A2 n2 c2)).new 24 (Plains.two false none 0 0)
  simp only [World.size_alloc] at H0
  have HH := Lib.hid H0
  clear H0 h1 h2
  obtain ⟨x, HX⟩ : ∃ v, Hid (rn a b = v) := ⟨_, rfl⟩
  obtain ⟨y, HY⟩ : ∃ v, Hid (rd a b = v) := ⟨_, rfl⟩
  obtain ⟨q, HQ⟩ : ∃ v, Hid (dmQ a b = v) := ⟨_, rfl⟩
  have HQ2 : Hid (dmQ x y = q) := by unfold Hid; rw [← HX.out, ← HY.out, dm_r]; exact HQ.out
  obtain ⟨r, HR⟩ : ∃ v, Hid (dmR x y = v) := ⟨_, rfl⟩
  have zx : Sz x 2000 := by rw [← HX.out]; exact (sz_rn za).mono (by decide)
  have zy : Sz y 2000 := by rw [← HY.out]; exact (sz_rd zb (by decide)).mono (by decide)
  have kx := zx.ok
  have ky := zy.ok
  obtain ⟨er, HE⟩ : ∃ v, Hid (dmE y = v) := ⟨_, rfl⟩
  rw [HQ.out]
  go_enter Try.func58, Try.ntmps58
  go_upto_region 2 with (first
    | (go_at_call 79; have K := HH.out; clear HH; have i1 := K.ints.2.1.i; have i2 := K.ints.1.i; (with_reducible refine (reduce_at i1 i2 za zb).mono ?_); rw [HX.out, HY.out]; rintro e w1 ⟨B1, m1, k1, B2, m2, k2, rfl, d1, d2, g1⟩; have K1 := ((K.call g1).add d2).add d1; obtain ⟨_, ⟨p0, p1, p2, p3⟩, _⟩ := K1.facts; obtain ⟨f0, f1, f2, f3⟩ := K1.free (i := 1) rfl)
    | fail)
  have K2 := K1.put4 1 rfl (decide (x < 0)) B1 m1 k1 (decide (y < 0)) B2 m2 k2
  simp only [List.set] at K2
  clear K K1 i1 i2 p0 p1 p2 p3 f0 f1 f2 f3 d1 d2 g1
  generalize ((((w1.setCell ⟨w.heap.size, 0, none⟩ (.bool (decide (x < 0)))).setCell ⟨w.heap.size, 1, none⟩ (.slice B1 m1 k1)).setCell ⟨w.heap.size, 2, none⟩ (.bool (decide (y < 0)))).setCell ⟨w.heap.size, 3, none⟩ (.slice B2 m2 k2)) = W2 at K2 ⊢
  obtain ⟨_, ⟨p0, p1, p2, p3⟩, _⟩ := K2.facts
  have ix := K2.ints.1.ci kx
  have iy := K2.ints.2.1.ci ky
  go_upto_region 3 with (first
    | (go_at_call 92; (with_reducible refine (rdivMod_at ix iy zx zy).mono ?_); rw [HQ2.out, HR.out, HE.out]; rintro e w3 ⟨B3, m3, k3, B4, m4, k4, rfl, d3, u3, v3, d4, u4, v4, g3⟩; have K3 := ((((K2.call g3).add (CanAt.mk_ d4 u4 v4)).add (CanAt.mk_ d3 u3 v3)).new 24 (Plains.two (decide (q < 0)) B3 m3 k3)).new 24 (Plains.two (decide (r < 0)) B4 m4 k4))
    | fail)
  simp only [World.size_alloc] at K3
  obtain ⟨_, ⟨o0, o1⟩, ⟨f4, f5⟩, _⟩ := K3.facts
  obtain ⟨f0, f1⟩ := K3.free (i := 2) rfl
  have K4 := K3.put 2 rfl (decide (q < 0)) B3 m3 k3
  simp only [List.set] at K4
  obtain ⟨_, _, ⟨r0, r1⟩, _⟩ := K4.facts
  go_wp2_with fail
  exact bodyPost_ret (v := .agg #[.bool (decide (q < 0)), .slice B3 m3 k3]) (by simp [results, Try.results58, go_sem, r0, r1]) rfl (RetZ.of_st K4)

set_option maxHeartbeats 4000000 in
set_option maxRecDepth 100000 in
theorem rceil_at {w : World} {s1 s2 : Bool} {A1 A2 : Option Addr} {n1 c1 n2 c2 : Nat} {a b : Int} (h1 : IntAt w s1 A1 n1 c1 a) (h2 : IntAt w s2 A2 n2 c2 b) (za : Sz a 900) (zb : Sz b 900) :
    Calls Try.prog 60 #[.agg #[.bool s1, .slice A1 n1 c1, .bool s2, .slice A2 n2 c2]] w (RetZ w (-dmQ (-a) b)) := by
  have H0 := ((((St.start w).addI h1).addI h2).new 42 (Plains.four s1 A1 n1 c1 s2 A2 n2 c2)).new 24 (Plains.two false none 0 0)
  simp only [World.size_alloc] at H0
  have HH := Lib.hid H0
  clear H0 h1 h2
  have za1 : Sz a 1900 := za.mono (by decide)
  have zb1 : Sz b 1900 := zb.mono (by decide)
  obtain ⟨x, HX⟩ : ∃ v, Hid (rn (-a) b = v) := ⟨_, rfl⟩
  obtain ⟨y, HY⟩ : ∃ v, Hid (rd (-a) b = v) := ⟨_, rfl⟩
  obtain ⟨q, HQ⟩ : ∃ v, Hid (dmQ (-a) b = v) := ⟨_, rfl⟩
  have HQ2 : Hid (dmQ x y = q) := by unfold Hid; rw [← HX.out, ← HY.out, dm_r]; exact HQ.out
  have zx : Sz x 1900 := by rw [← HX.out]; exact (sz_rn za1.neg)
  have zy : Sz y 1900 := by rw [← HY.out]; exact (sz_rd zb (by decide)).mono (by decide)
  have zq : Sz q 1900 := by rw [← HQ2.out, dm_u]; exact zx.le (Nat.le_trans (Int.natAbs_ediv_le_natAbs _ _) (un_abs x y))
  have kx := zx.ok
  have ky := zy.ok
  have kq := zq.ok
  obtain ⟨z, HZ⟩ : ∃ v, Hid (-q = v) := ⟨_, rfl⟩
  rw [HQ.out, HZ.out]
  go_enter Try.func60, Try.ntmps60
  go_wp2_with (first
    | (go_at_call 41; have K := HH.out; clear HH; have i1 := K.ints.2.1.i; have i2 := K.ints.1.i; (with_reducible refine (rnegF_at i1 i2 za1 zb1).mono ?_); rw [HX.out, HY.out]; rintro e w1 ⟨B1, m1, k1, B2, m2, k2, rfl, d1, d2, g1⟩; have K1 := ((K.call g1).add d2).add d1; have ix := K1.ints.1.ci kx; have iy := K1.ints.2.1.ci ky)
    | (go_at_call 58; (with_reducible refine (rfloor_at ix iy zx zy).mono ?_); rw [HQ2.out]; rintro e w2 ⟨B3, m3, k3, rfl, d3, u3, v3, g2⟩; have K2 := (K1.call g2).add (CanAt.mk_ d3 u3 v3); have iq := K2.ints.1.ci kq)
    | (go_at_call 123; (with_reducible refine (rnegate_at iq).mono ?_); rw [HZ.out]; rintro e w3 ⟨B4, m4, k4, rfl, d4, u4, v4, g3⟩; have K3 := (K2.call g3).add (CanAt.mk_ d4 u4 v4); obtain ⟨⟨q0, q1⟩, _⟩ := K3.facts; obtain ⟨f0, f1⟩ := K3.free (i := 0) rfl)
    | fail)
  have K4 := K3.put 0 rfl (decide (z < 0)) B4 m4 k4
  simp only [List.set] at K4
  obtain ⟨⟨r0, r1⟩, _⟩ := K4.facts
  exact bodyPost_ret (v := .agg #[.bool (decide (z < 0)), .slice B4 m4 k4]) (by simp [results, Try.results60, go_sem, r0, r1]) rfl (RetZ.of_st K4)

set_option maxHeartbeats 4000000 in
set_option maxRecDepth 100000 in
theorem whole_any (k : Int) (h1 : -9223372036854775808 ≤ k) (h2 : k ≤ 9223372036854775807) (w : World) :
    Calls Try.prog 130 #[.int .i64 k] w (RetFr w (rn k 1) (rd k 1)) := by
  have H0 := (St.start w).new 42 (Plains.four false none 0 0 false none 0 0)
  have HH := Lib.hid H0
  clear H0
  have zk := (sz_i64 h1 h2).mono (show 2 ≤ 1900 by decide)
  have kk := zk.ok
  obtain ⟨x, HX⟩ : ∃ v, Hid (rn k 1 = v) := ⟨_, rfl⟩
  obtain ⟨y, HY⟩ : ∃ v, Hid (rd k 1 = v) := ⟨_, rfl⟩
  rw [HX.out, HY.out]
  go_enter Try.func130, Try.ntmps130
  go_wp2_with (first
    | (go_at_call 90; have K := HH.out; clear HH; (with_reducible refine (rfromInt64_any k h1 h2 _).mono ?_); rintro e w1 ⟨B1, m1, k1, rfl, d1, u1, v1, g1⟩; have K1 := (K.call g1).add (CanAt.mk_ d1 u1 v1); have ik := K1.ints.1.ci kk)
    | (go_at_call 55; (with_reducible refine (rfromInt_at ik zk).mono ?_); rw [HX.out, HY.out]; rintro e w2 ⟨B2, m2, k2, B3, m3, k3, rfl, d2, d3, g2⟩; have K2 := ((K1.call g2).add d3).add d2; obtain ⟨⟨q0, q1, q2, q3⟩, _⟩ := K2.facts; obtain ⟨f0, f1, f2, f3⟩ := K2.free (i := 0) rfl)
    | fail)
  have K4 := K2.put4 0 rfl (decide (x < 0)) B2 m2 k2 (decide (y < 0)) B3 m3 k3
  simp only [List.set] at K4
  obtain ⟨⟨r0, r1, r2, r3⟩, _⟩ := K4.facts
  exact bodyPost_ret (v := .agg #[.bool (decide (x < 0)), .slice B2 m2 k2, .bool (decide (y < 0)), .slice B3 m3 k3]) (by simp [results, Try.results130, go_sem, r0, r1, r2, r3]) rfl (RetFr.of_st K4)
theorem r_int (k : Int) : rn k 1 = k ∧ rd k 1 = 1 := r_self (by decide) (by rw [Int.gcd_one])
theorem r_cases (a b : Int) : (refV a b = 1 ∧ rdV a b = dmQ a b + 1) ∨ (refV a b = 0 ∧ oddB (dmQ a b) = true ∧ rdV a b = dmQ a b + 1) ∨ (refV a b = 0 ∧ oddB (dmQ a b) = false ∧ rdV a b = dmQ a b) ∨ (refV a b = -1 ∧ rdV a b = dmQ a b) := by
  by_cases hb : b = 0
  · subst hb
    have h := ref_zero a
    exact Or.inr (Or.inr (Or.inr ⟨h.1, h.2.2.trans h.2.1.symm⟩))
  · rw [ref_ord a b hb]
    rcases cmpI_cases (((dmR a b + dmR a b).natAbs : Nat) : Int) ((b.natAbs : Nat) : Int) with h | h | h
    · exact Or.inr (Or.inr (Or.inr ⟨h, rdV_neg h⟩))
    · cases ho : oddB (dmQ a b) with
      | true => exact Or.inr (Or.inl ⟨h, rfl, rdV_odd h ho⟩)
      | false => exact Or.inr (Or.inr (Or.inl ⟨h, rfl, rdV_even h ho⟩))
    · exact Or.inl ⟨h, rdV_pos h⟩
end Go.Proofs.Ytplmfdgdbolcaaa
