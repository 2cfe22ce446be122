/-
  The walk of the law IntegerBezout.
-/
import Derived.Test.YtehoafpnmfkniaaEgcd
set_option linter.unusedVariables false
set_option linter.unusedSimpArgs false
namespace Go.Proofs.Ytehoafpnmfkniaa
open Go.RowKit

theorem sgn_mul (a : Int) : a * sgn a = ((a.natAbs : Nat) : Int) := by
  rcases Int.lt_trichotomy a 0 with h | h | h
  · rw [sgn, cmpI_lt h]; omega
  · rw [sgn, cmpI_eq h]; omega
  · rw [sgn, cmpI_gt h]; omega

theorem EgP.sum {a b g x y : Int} (h : EgP a b g x y) : a * x + b * y = g := by
  by_cases hb : b = 0
  · obtain ⟨rfl, rfl⟩ := h.2.1 hb
    rw [sgn_mul, h.1, hb]; simp [Int.gcd]
  · exact (h.2.2 hb).2.2
theorem EgP.nonneg {a b g x y : Int} (h : EgP a b g x y) : 0 ≤ g := by rw [h.1]; omega
theorem EgP.zero {a b g x y : Int} (h : EgP a b g x y) (hg : g = 0) : a = 0 ∧ b = 0 := by
  have h1 := h.1
  have : Int.gcd a b = 0 := by omega
  exact Int.gcd_eq_zero_iff.1 this
theorem EgP.left {a b g x y : Int} (h : EgP a b g x y) (hg : g ≠ 0) : dmR a g = 0 := (dm_exact hg (by rw [h.1]; exact Int.gcd_dvd_left a b)).2
theorem EgP.right {a b g x y : Int} (h : EgP a b g x y) (hg : g ≠ 0) : dmR b g = 0 := (dm_exact hg (by rw [h.1]; exact Int.gcd_dvd_right a b)).2

set_option maxHeartbeats 8000000 in
set_option maxRecDepth 100000 in
theorem bezout_law (x1 x2 : Bool) (A1 A2 : Option Addr) (n1 c1 n2 c2 : Nat) (d1 d2 : List Nat) (w : World) (h1 : Dgs w w.heap.size A1 n1 d1) (h2 : Dgs w w.heap.size A2 n2 d2)
    (hc1 : n1 ≤ c1) (hm1 : c1 ≤ maxLen) (hc2 : n2 ≤ c2) (hm2 : c2 ≤ maxLen) (hn1 : n1 ≤ 140737488351232) (hn2 : n2 ≤ 140737488351232) :
    Calls Try.prog 6 #[.agg #[.bool x1, .slice A1 n1 c1], .agg #[.bool x2, .slice A2 n2 c2]] w (RetT1 w) := by
  have hb3 : Below w.heap.size w (((w.alloc (.cells #[.bool x1, .slice A1 n1 c1] 24)).alloc (.cells #[.bool x2, .slice A2 n2 c2] 24)).alloc (.cells #[.bool x1, .slice A1 n1 c1, .bool x2, .slice A2 n2 c2] 24)) := (bnew2 _ _ _).alloc (by simp; omega) _
  by_cases hl : n1 + n2 ≤ 60
  · have hlight := light2 (w := ((w.alloc (.cells #[.bool x1, .slice A1 n1 c1] 24)).alloc (.cells #[.bool x2, .slice A2 n2 c2] 24))) (x1 := x1) (x2 := x2) (A1 := A1) (A2 := A2) (c1 := c1) (c2 := c2) (g := w.heap.size + 1 + 1) (by simp) hn1 hn2 true (by simp [hl])
    have H0 := (((((St.start w).addI (s := x1) ⟨d1, h1, hc1, hm1, rfl, by omega⟩).addI (s := x2) ⟨d2, h2, hc2, hm2, rfl, by omega⟩).new 24 (Plains.two x1 A1 n1 c1)).new 24 (Plains.two x2 A2 n2 c2)).alloc (.cells #[.bool x1, .slice A1 n1 c1, .bool x2, .slice A2 n2 c2] 24)
    simp only [World.size_alloc] at H0
    have za := ((sz_of h1 x1).mono (show n1 ≤ 60 by omega)).mono (show 60 ≤ 100 by decide)
    have zb := ((sz_of h2 x2).mono (show n2 ≤ 60 by omega)).mono (show 60 ≤ 100 by decide)
    clear h1 h2 hb3 hl
    generalize zOf x1 (val d1) = a at *
    generalize zOf x2 (val d2) = b at *
    have HH := Lib.hid H0
    clear H0
    have ka := za.ok
    have kb := zb.ok
    go_enter Try.func6, Try.ntmps6
    go_upto_region 4 with (first
      | (go_at_call 16; (with_reducible refine hlight.mono ?_); rintro e w' ⟨rfl, rfl⟩; have K0 := HH.out; clear HH; obtain ⟨i2, i1, _⟩ := K0.ints)
      | (go_at_call 26; (with_reducible refine (egcd_at i1.i i2.i za zb).mono ?_); rintro e w1 ⟨g, x, y, A3, n3, c3, A4, n4, c4, A5, n5, c5, hE, zg, zx, zy, rfl, e3, e4, e5, g1⟩; have K1 := ((((((K0.call g1).add e3).add e4).add e5).new 24 (Plains.two (decide (g < 0)) A3 n3 c3)).new 24 (Plains.two (decide (x < 0)) A4 n4 c4)).new 24 (Plains.two (decide (y < 0)) A5 n5 c5); have HE := Lib.hid hE; clear hE)
      | fail)
    simp only [World.size_alloc] at K1
    clear K0 hlight i1 i2 e3 e4 e5 g1
    generalize ((w1.alloc (.cells #[.bool (decide (g < 0)), .slice A3 n3 c3] 24)).alloc (.cells #[.bool (decide (x < 0)), .slice A4 n4 c4] 24)).alloc (.cells #[.bool (decide (y < 0)), .slice A5 n5 c5] 24) = W1 at K1 ⊢
    generalize w1.heap.size = h5 at K1 ⊢
    obtain ⟨h6, H6⟩ : ∃ v, v = h5 + 1 := ⟨_, rfl⟩
    rw [← H6] at K1 ⊢
    clear H6
    obtain ⟨h7, H7⟩ : ∃ v, v = h6 + 1 := ⟨_, rfl⟩
    rw [← H7] at K1 ⊢
    clear H7
    obtain ⟨t1, HT1⟩ : ∃ v, Hid (a * x = v) := ⟨_, rfl⟩
    obtain ⟨t2, HT2⟩ : ∃ v, Hid (b * y = v) := ⟨_, rfl⟩
    obtain ⟨t3, HT3⟩ : ∃ v, Hid (t1 + t2 = v) := ⟨_, rfl⟩
    have HC : Hid (cmpI t3 g = 0) := cmpI_eq (by rw [← HT3.out, ← HT1.out, ← HT2.out]; exact HE.out.sum)
    have kg := zg.ok
    have kx := zx.ok
    have ky := zy.ok
    have z1 : Sz t1 600 := by rw [← HT1.out]; exact za.mul zx
    have z2 : Sz t2 600 := by rw [← HT2.out]; exact zb.mul zy
    have k1 := z1.ok
    have k2 := z2.ok
    have k3 : (digs t3.natAbs).length ≤ 1000000 := by rw [← HT3.out]; exact (z1.add z2).ok
    have Kd := K1.drew
    obtain ⟨⟨p0, p1⟩, ⟨p2, p3⟩, ⟨p4, p5⟩, ⟨p6, p7⟩, ⟨p8, p9⟩, _⟩ := K1.facts
    clear K1
    obtain ⟨iy, ix, ig, ib, ia, _⟩ := Kd.ints
    by_cases hg : g = 0
    · have hab := HE.out.zero hg
      have HSG : Hid (sgn g = 0) := cmpI_eq hg
      have HSA : Hid (sgn a = 0) := cmpI_eq hab.1
      have HSB : Hid (sgn b = 0) := cmpI_eq hab.2
      clear hab hg
      go_region_held3 (fun w' => w'.cell? ⟨h5, 0, none⟩ = some (.bool (decide (g < 0))) ∧ w'.cell? ⟨h5, 1, none⟩ = some (.slice A3 n3 c3) ∧ w'.cell? ⟨h6, 0, none⟩ = some (.bool (decide (x < 0))) ∧ w'.cell? ⟨h6, 1, none⟩ = some (.slice A4 n4 c4) ∧ w'.cell? ⟨h7, 0, none⟩ = some (.bool (decide (y < 0))) ∧ w'.cell? ⟨h7, 1, none⟩ = some (.slice A5 n5 c5) ∧ w'.cell? ⟨w.heap.size, 0, none⟩ = some (.bool x1) ∧ w'.cell? ⟨w.heap.size, 1, none⟩ = some (.slice A1 n1 c1) ∧ w'.cell? ⟨w.heap.size + 1, 0, none⟩ = some (.bool x2) ∧ w'.cell? ⟨w.heap.size + 1, 1, none⟩ = some (.slice A2 n2 c2))
        (go_keep)
        (first
          | (go_at_call_of 23 (Value.agg #[Value.bool (decide (x < 0)), Value.slice A4 n4 c4]); (with_reducible refine (mul_at ia.i (ix.ci kx)).mono ?_); rw [HT1.out]; rintro e wa ⟨C1, l1, q1, rfl, d1, u1, v1, g1⟩; have L1 := (Kd.call g1).add (CanAt.mk_ d1 u1 v1); clear p0 p1 p2 p3 p4 p5 p6 p7 p8 p9; obtain ⟨⟨p0, p1⟩, ⟨p2, p3⟩, ⟨p4, p5⟩, ⟨p6, p7⟩, ⟨p8, p9⟩, _⟩ := L1.facts; obtain ⟨_, jy, _, _, jb, _⟩ := L1.ints)
          | (go_at_call_of 23 (Value.agg #[Value.bool (decide (y < 0)), Value.slice A5 n5 c5]); (with_reducible refine (mul_at jb.i (jy.ci ky)).mono ?_); rw [HT2.out]; rintro e wb ⟨C2, l2, q2, rfl, d2, u2, v2, g2⟩; have L2 := (L1.call g2).add (CanAt.mk_ d2 u2 v2); clear p0 p1 p2 p3 p4 p5 p6 p7 p8 p9; obtain ⟨⟨p0, p1⟩, ⟨p2, p3⟩, ⟨p4, p5⟩, ⟨p6, p7⟩, ⟨p8, p9⟩, _⟩ := L2.facts; obtain ⟨m2, m1, _⟩ := L2.ints)
          | (go_at_call 22; (with_reducible refine (add_at (m1.ci k1) (m2.ci k2)).mono ?_); rw [HT3.out]; rintro e wd ⟨C3, l3, q3, rfl, d3, u3, v3, g3⟩; have L3 := (L2.call g3).add (CanAt.mk_ d3 u3 v3); clear p0 p1 p2 p3 p4 p5 p6 p7 p8 p9; obtain ⟨⟨p0, p1⟩, ⟨p2, p3⟩, ⟨p4, p5⟩, ⟨p6, p7⟩, ⟨p8, p9⟩, _⟩ := L3.facts; obtain ⟨m3, _, _, _, _, lg, _⟩ := L3.ints)
          | (go_at_call 24; (with_reducible refine (compare_at (m3.ci k3) (lg.ci kg)).mono ?_); rw [HC.out]; rintro e we ⟨rfl, g4⟩; have L4 := L3.call g4; clear p0 p1 p2 p3 p4 p5 p6 p7 p8 p9; obtain ⟨⟨p0, p1⟩, ⟨p2, p3⟩, ⟨p4, p5⟩, ⟨p6, p7⟩, ⟨p8, p9⟩, _⟩ := L4.facts; obtain ⟨_, _, _, _, _, og, _⟩ := L4.ints)
          | (go_at_call 21; (with_reducible refine (sign_at (og.ci kg)).mono ?_); rw [HSG.out]; rintro e wf ⟨rfl, g5⟩; have L5 := L4.call g5; clear p0 p1 p2 p3 p4 p5 p6 p7 p8 p9; obtain ⟨⟨p0, p1⟩, ⟨p2, p3⟩, ⟨p4, p5⟩, ⟨p6, p7⟩, ⟨p8, p9⟩, _⟩ := L5.facts; obtain ⟨_, _, _, _, _, og, ob, oa, _⟩ := L5.ints)
          | fail)
      go_wp2_with (first
        | (go_at_call_of 21 (Value.agg #[Value.bool (decide (g < 0)), Value.slice A3 n3 c3]); (with_reducible refine (sign_at (og.ci kg)).mono ?_); rw [HSG.out]; rintro e wg ⟨rfl, g6⟩; have L6 := L5.call g6; clear p0 p1 p2 p3 p4 p5 p6 p7 p8 p9; obtain ⟨⟨p0, p1⟩, ⟨p2, p3⟩, ⟨p4, p5⟩, ⟨p6, p7⟩, ⟨p8, p9⟩, _⟩ := L6.facts; obtain ⟨_, _, _, _, _, _, rb, ra, _⟩ := L6.ints)
        | (go_at_call_of 21 (Value.agg #[Value.bool x1, Value.slice A1 n1 c1]); (with_reducible refine (sign_at ra.i).mono ?_); rw [HSA.out]; rintro e wh ⟨rfl, g7⟩; have L7 := L6.call g7; clear p0 p1 p2 p3 p4 p5 p6 p7 p8 p9; obtain ⟨⟨p0, p1⟩, ⟨p2, p3⟩, ⟨p4, p5⟩, ⟨p6, p7⟩, ⟨p8, p9⟩, _⟩ := L7.facts; obtain ⟨_, _, _, _, _, _, sb, _, _⟩ := L7.ints)
        | (go_at_call_of 21 (Value.agg #[Value.bool x2, Value.slice A2 n2 c2]); (with_reducible refine (sign_at sb.i).mono ?_); rw [HSB.out]; rintro e wi ⟨rfl, g8⟩; have L8 := L7.call g8)
        | (go_at_call 17; (with_reducible refine (awake_any _).mono ?_); rintro e wj ⟨rfl, g9⟩; have L9 := L8.call g9)
        | fail)
      go_ret
      exact ⟨rfl, L9.below⟩
    · obtain ⟨r1, HR1⟩ : ∃ v, Hid (dmR a g = v) := ⟨_, rfl⟩
      obtain ⟨r2, HR2⟩ : ∃ v, Hid (dmR b g = v) := ⟨_, rfl⟩
      obtain ⟨s1, HS1⟩ : ∃ v, Hid (dmQ a g = v) := ⟨_, rfl⟩
      obtain ⟨s2, HS2⟩ : ∃ v, Hid (dmQ b g = v) := ⟨_, rfl⟩
      have HSG : Hid (sgn g = 1) := cmpI_gt (by have := HE.out.nonneg; omega)
      have HER : Hid (dmE g = 0) := dm_err hg
      have hr1 : r1 = 0 := by rw [← HR1.out]; exact HE.out.left hg
      have hr2 : r2 = 0 := by rw [← HR2.out]; exact HE.out.right hg
      have HSR1 : Hid (sgn r1 = 0) := cmpI_eq hr1
      have HSR2 : Hid (sgn r2 = 0) := cmpI_eq hr2
      have kr1 : (digs r1.natAbs).length ≤ 1000000 := by rw [hr1]; simp [digs_zero]
      have kr2 : (digs r2.natAbs).length ≤ 1000000 := by rw [hr2]; simp [digs_zero]
      clear hg hr1 hr2
      go_region_held3 (fun w' => w'.cell? ⟨h5, 0, none⟩ = some (.bool (decide (g < 0))) ∧ w'.cell? ⟨h5, 1, none⟩ = some (.slice A3 n3 c3) ∧ w'.cell? ⟨h6, 0, none⟩ = some (.bool (decide (x < 0))) ∧ w'.cell? ⟨h6, 1, none⟩ = some (.slice A4 n4 c4) ∧ w'.cell? ⟨h7, 0, none⟩ = some (.bool (decide (y < 0))) ∧ w'.cell? ⟨h7, 1, none⟩ = some (.slice A5 n5 c5) ∧ w'.cell? ⟨w.heap.size, 0, none⟩ = some (.bool x1) ∧ w'.cell? ⟨w.heap.size, 1, none⟩ = some (.slice A1 n1 c1) ∧ w'.cell? ⟨w.heap.size + 1, 0, none⟩ = some (.bool x2) ∧ w'.cell? ⟨w.heap.size + 1, 1, none⟩ = some (.slice A2 n2 c2))
        (go_keep)
        (first
          | (go_at_call_of 23 (Value.agg #[Value.bool (decide (x < 0)), Value.slice A4 n4 c4]); (with_reducible refine (mul_at ia.i (ix.ci kx)).mono ?_); rw [HT1.out]; rintro e wa ⟨C1, l1, q1, rfl, d1, u1, v1, g1⟩; have L1 := (Kd.call g1).add (CanAt.mk_ d1 u1 v1); clear p0 p1 p2 p3 p4 p5 p6 p7 p8 p9; obtain ⟨⟨p0, p1⟩, ⟨p2, p3⟩, ⟨p4, p5⟩, ⟨p6, p7⟩, ⟨p8, p9⟩, _⟩ := L1.facts; obtain ⟨_, jy, _, _, jb, _⟩ := L1.ints)
          | (go_at_call_of 23 (Value.agg #[Value.bool (decide (y < 0)), Value.slice A5 n5 c5]); (with_reducible refine (mul_at jb.i (jy.ci ky)).mono ?_); rw [HT2.out]; rintro e wb ⟨C2, l2, q2, rfl, d2, u2, v2, g2⟩; have L2 := (L1.call g2).add (CanAt.mk_ d2 u2 v2); clear p0 p1 p2 p3 p4 p5 p6 p7 p8 p9; obtain ⟨⟨p0, p1⟩, ⟨p2, p3⟩, ⟨p4, p5⟩, ⟨p6, p7⟩, ⟨p8, p9⟩, _⟩ := L2.facts; obtain ⟨m2, m1, _⟩ := L2.ints)
          | (go_at_call 22; (with_reducible refine (add_at (m1.ci k1) (m2.ci k2)).mono ?_); rw [HT3.out]; rintro e wd ⟨C3, l3, q3, rfl, d3, u3, v3, g3⟩; have L3 := (L2.call g3).add (CanAt.mk_ d3 u3 v3); clear p0 p1 p2 p3 p4 p5 p6 p7 p8 p9; obtain ⟨⟨p0, p1⟩, ⟨p2, p3⟩, ⟨p4, p5⟩, ⟨p6, p7⟩, ⟨p8, p9⟩, _⟩ := L3.facts; obtain ⟨m3, _, _, _, _, lg, _⟩ := L3.ints)
          | (go_at_call 24; (with_reducible refine (compare_at (m3.ci k3) (lg.ci kg)).mono ?_); rw [HC.out]; rintro e we ⟨rfl, g4⟩; have L4 := L3.call g4; clear p0 p1 p2 p3 p4 p5 p6 p7 p8 p9; obtain ⟨⟨p0, p1⟩, ⟨p2, p3⟩, ⟨p4, p5⟩, ⟨p6, p7⟩, ⟨p8, p9⟩, _⟩ := L4.facts; obtain ⟨_, _, _, _, _, og, _⟩ := L4.ints)
          | (go_at_call 21; (with_reducible refine (sign_at (og.ci kg)).mono ?_); rw [HSG.out]; rintro e wf ⟨rfl, g5⟩; have L5 := L4.call g5; clear p0 p1 p2 p3 p4 p5 p6 p7 p8 p9; obtain ⟨⟨p0, p1⟩, ⟨p2, p3⟩, ⟨p4, p5⟩, ⟨p6, p7⟩, ⟨p8, p9⟩, _⟩ := L5.facts; obtain ⟨_, _, _, _, _, og, ob, oa, _⟩ := L5.ints)
          | fail)
      go_upto_region 10 with (first
        | (go_at_call 21; (with_reducible refine (sign_at (og.ci kg)).mono ?_); rw [HSG.out]; rintro e wg ⟨rfl, g6⟩; have L6 := L5.call g6; clear p0 p1 p2 p3 p4 p5 p6 p7 p8 p9; obtain ⟨⟨p0, p1⟩, ⟨p2, p3⟩, ⟨p4, p5⟩, ⟨p6, p7⟩, ⟨p8, p9⟩, _⟩ := L6.facts; obtain ⟨_, _, _, _, _, rg, _, ra, _⟩ := L6.ints)
        | (go_at_call_of 18 (Value.agg #[Value.bool x1, Value.slice A1 n1 c1]); (with_reducible refine (divMod_at ra.i (rg.ci kg)).mono ?_); rw [HS1.out, HR1.out, HER.out]; rintro e wh ⟨B1, b1, y1, B2, b2, y2, rfl, e1, e2, e3, e4, e5, e6, g7⟩; have L7 := (((L6.call g7).add (CanAt.mk_ e4 e5 e6)).new 24 (Plains.two (decide (s1 < 0)) B1 b1 y1)).new 24 (Plains.two (decide (r1 < 0)) B2 b2 y2); clear p0 p1 p2 p3 p4 p5 p6 p7 p8 p9; obtain ⟨_, _, ⟨p0, p1⟩, ⟨p2, p3⟩, ⟨p4, p5⟩, ⟨p6, p7⟩, ⟨p8, p9⟩, _⟩ := L7.facts; obtain ⟨_, _, _, _, _, _, sg, sb, _, _⟩ := L7.ints)
        | (go_at_call_of 18 (Value.agg #[Value.bool x2, Value.slice A2 n2 c2]); (with_reducible refine (divMod_at sb.i (sg.ci kg)).mono ?_); rw [HS2.out, HR2.out, HER.out]; rintro e wi ⟨B3, b3, y3, B4, b4, y4, rfl, e1', e2', e3', e4', e5', e6', g8⟩; have L8 := (((L7.call g8).add (CanAt.mk_ e4' e5' e6')).new 24 (Plains.two (decide (s2 < 0)) B3 b3 y3)).new 24 (Plains.two (decide (r2 < 0)) B4 b4 y4))
        | fail)
      simp only [World.size_alloc] at L8
      clear p0 p1 p2 p3 p4 p5 p6 p7 p8 p9
      obtain ⟨⟨p0, p1⟩, _, ⟨p2, p3⟩, _⟩ := L8.facts
      obtain ⟨i2, i1, _⟩ := L8.ints
      go_wp2_with (first
        | (go_at_call_of 21 (Value.agg #[Value.bool (decide (r1 < 0)), Value.slice B2 b2 y2]); (with_reducible refine (sign_at (i1.ci kr1)).mono ?_); rw [HSR1.out]; rintro e wj ⟨rfl, g9⟩; have L9 := L8.call g9; clear p0 p1 p2 p3; obtain ⟨⟨p0, p1⟩, _⟩ := L9.facts; obtain ⟨j2, _⟩ := L9.ints)
        | (go_at_call_of 21 (Value.agg #[Value.bool (decide (r2 < 0)), Value.slice B4 b4 y4]); (with_reducible refine (sign_at (j2.ci kr2)).mono ?_); rw [HSR2.out]; rintro e wk ⟨rfl, ga⟩; have LA := L9.call ga)
        | (go_at_call 17; (with_reducible refine (awake_any _).mono ?_); rintro e wl ⟨rfl, gb⟩; have LB := LA.call gb)
        | fail)
      go_ret
      exact ⟨rfl, LB.below⟩
  · have hlight := light2 (w := ((w.alloc (.cells #[.bool x1, .slice A1 n1 c1] 24)).alloc (.cells #[.bool x2, .slice A2 n2 c2] 24))) (x1 := x1) (x2 := x2) (A1 := A1) (A2 := A2) (c1 := c1) (c2 := c2) (g := w.heap.size + 1 + 1) (by simp) hn1 hn2 false (by simp; omega)
    go_enter Try.func6, Try.ntmps6
    go_wp2_with (first
      | (go_at_call 16; (with_reducible refine hlight.mono ?_); rintro e w' ⟨rfl, rfl⟩)
      | (go_at_call 17; (with_reducible refine (awake_any _).mono ?_); rintro e w1 ⟨rfl, hb1⟩))
    go_ret
    exact ⟨rfl, bcall hb3 hb1⟩
end Go.Proofs.Ytehoafpnmfkniaa
