/-
  The walk of the law IntegerDivisors.
-/
import Derived.Test.YtplmfdgdbolcaaaGcd
import Derived.Test.YtplmfdgdbolcaaaREgcd
set_option linter.unusedVariables false
set_option linter.unusedSimpArgs false
namespace Go.Proofs.Ytplmfdgdbolcaaa
open Go.RowKit

/-- What is asked of the three numbers leaves no choice. -/
theorem EgP.only {a b g x y g' x' y' : Int} (h : EgP a b g x y) (h' : EgP a b g' x' y') : g = g' ∧ x = x' ∧ y = y' := by
  have hg : g = g' := h.1.trans h'.1.symm
  refine ⟨hg, ?_⟩
  subst hg
  by_cases hb : b = 0
  · obtain ⟨e1, e2⟩ := h.2.1 hb
    obtain ⟨e3, e4⟩ := h'.2.1 hb
    exact ⟨e1.trans e3.symm, e2.trans e4.symm⟩
  · obtain ⟨a1, a2, a3⟩ := h.2.2 hb
    obtain ⟨b1, b2, b3⟩ := h'.2.2 hb
    have hg := h.1
    rw [← gcd_abs] at hg
    have hm : 0 < ((b.natAbs : Nat) : Int) := by omega
    have hk : ∀ z v : Int, a * z + b * v = g → ∃ k, a * z = (Int.gcd a ((b.natAbs : Nat) : Int) : Nat) + k * ((b.natAbs : Nat) : Int) := by
      intro z v e
      rw [← hg]
      by_cases h0 : 0 < b
      · refine ⟨-v, ?_⟩
        rw [show ((b.natAbs : Nat) : Int) = b by omega, Int.neg_mul, Int.mul_comm v]; omega
      · refine ⟨v, ?_⟩
        rw [show ((b.natAbs : Nat) : Int) = -b by omega, Int.mul_neg, Int.mul_comm v]; omega
    obtain ⟨k, hk1⟩ := hk x y a3
    obtain ⟨l, hl1⟩ := hk x' y' b3
    have hx : x = x' := eg_only hm a1 (by rw [← hg]; exact a2) b1 (by rw [← hg]; exact b2) hk1 hl1
    subst hx
    exact ⟨rfl, Int.eq_of_mul_eq_mul_left hb (by omega)⟩

set_option maxHeartbeats 8000000 in
set_option maxRecDepth 100000 in
theorem divisors_law (x1 x2 : Bool) (A1 A2 : Option Addr) (n1 c1 n2 c2 : Nat) (d1 d2 : List Nat) (w : World) (h1 : Dgs w w.heap.size A1 n1 d1) (h2 : Dgs w w.heap.size A2 n2 d2)
    (hc1 : n1 ≤ c1) (hm1 : c1 ≤ maxLen) (hc2 : n2 ≤ c2) (hm2 : c2 ≤ maxLen) (hn1 : n1 ≤ 140737488351232) (hn2 : n2 ≤ 140737488351232) :
    Calls Try.prog 3 #[.agg #[.bool x1, .slice A1 n1 c1], .agg #[.bool x2, .slice A2 n2 c2]] w (RetT1 w) := by
  have hb3 : Below w.heap.size w (((w.alloc (.cells #[.bool x1, .slice A1 n1 c1] 24)).alloc (.cells #[.bool x2, .slice A2 n2 c2] 24)).alloc (.cells #[.bool x1, .slice A1 n1 c1, .bool x2, .slice A2 n2 c2] 24)) := (bnew2 _ _ _).alloc (by simp; omega) _
  by_cases hl : n1 + n2 ≤ 60
  · have hlight := light2 (w := ((w.alloc (.cells #[.bool x1, .slice A1 n1 c1] 24)).alloc (.cells #[.bool x2, .slice A2 n2 c2] 24))) (x1 := x1) (x2 := x2) (A1 := A1) (A2 := A2) (c1 := c1) (c2 := c2) (g := w.heap.size + 1 + 1) (by simp) hn1 hn2 true (by simp [hl])
    have H0 := (((((St.start w).addI (s := x1) ⟨d1, h1, hc1, hm1, rfl, by omega⟩).addI (s := x2) ⟨d2, h2, hc2, hm2, rfl, by omega⟩).new 24 (Plains.two x1 A1 n1 c1)).new 24 (Plains.two x2 A2 n2 c2)).alloc (.cells #[.bool x1, .slice A1 n1 c1, .bool x2, .slice A2 n2 c2] 24)
    simp only [World.size_alloc] at H0
    have za := ((sz_of h1 x1).mono (show n1 ≤ 60 by omega)).mono (show 60 ≤ 100 by decide)
    have zb := ((sz_of h2 x2).mono (show n2 ≤ 60 by omega)).mono (show 60 ≤ 100 by decide)
    clear h1 h2 hb3 hl
    generalize zOf x1 (val d1) = a at *
    generalize zOf x2 (val d2) = b at *
    have HH := Lib.hid H0
    clear H0
    go_enter Try.func3, Try.ntmps3
    go_upto_region 4 with (first
      | (go_at_call 14; (with_reducible refine hlight.mono ?_); rintro e w' ⟨rfl, rfl⟩; have K0 := HH.out; clear HH; obtain ⟨i2, i1, _⟩ := K0.ints)
      | (go_at_call 16; (with_reducible refine (egcd_at i1.i i2.i za zb).mono ?_); rintro e w1 ⟨g, x, y, A3, n3, c3, A4, n4, c4, A5, n5, c5, hE, zg, zx, zy, rfl, e3, e4, e5, g1⟩; have K1 := ((((((K0.call g1).add e3).add e4).add e5).new 24 (Plains.two (decide (g < 0)) A3 n3 c3)).new 24 (Plains.two (decide (x < 0)) A4 n4 c4)).new 24 (Plains.two (decide (y < 0)) A5 n5 c5); have HE := Lib.hid hE; clear hE)
      | fail)
    simp only [World.size_alloc] at K1
    clear K0 hlight i1 i2 e3 e4 e5 g1
    generalize ((w1.alloc (.cells #[.bool (decide (g < 0)), .slice A3 n3 c3] 24)).alloc (.cells #[.bool (decide (x < 0)), .slice A4 n4 c4] 24)).alloc (.cells #[.bool (decide (y < 0)), .slice A5 n5 c5] 24) = W1 at K1 ⊢
    generalize w1.heap.size = h5 at K1 ⊢
    obtain ⟨h6, H6⟩ : ∃ v, v = h5 + 1 := ⟨_, rfl⟩
    rw [← H6] at K1 ⊢
    clear H6
    obtain ⟨h7, H7⟩ : ∃ v, v = h6 + 1 := ⟨_, rfl⟩
    rw [← H7] at K1 ⊢
    clear H7
    obtain ⟨i5, i4, i3, ib, ia, _⟩ := K1.ints
    obtain ⟨_, _, _, ⟨p0, p1⟩, ⟨p2, p3⟩, _⟩ := K1.facts
    go_upto_region 5 with (first
      | (go_at_call 17; (with_reducible refine (regcd_at ia.i ib.i za zb).mono ?_); rintro e w2 ⟨g', x', y', F1, l1, k1, F2, l2, k2, F3, l3, k3, hE, zg', zx', zy', rfl, e3, e4, e5, g2⟩; obtain ⟨rfl, rfl, rfl⟩ := HE.out.only hE; have K2 := ((((((K1.call g2).add e3).add e4).add e5).new 24 (Plains.two (decide (g < 0)) F1 l1 k1)).new 24 (Plains.two (decide (x < 0)) F2 l2 k2)).new 24 (Plains.two (decide (y < 0)) F3 l3 k3))
      | fail)
    simp only [World.size_alloc] at K2
    clear K1 ia ib i3 i4 i5 p0 p1 p2 p3 e3 e4 e5 g2 hE
    generalize ((w2.alloc (.cells #[.bool (decide (g < 0)), .slice F1 l1 k1] 24)).alloc (.cells #[.bool (decide (x < 0)), .slice F2 l2 k2] 24)).alloc (.cells #[.bool (decide (y < 0)), .slice F3 l3 k3] 24) = W2 at K2 ⊢
    generalize w2.heap.size = h8 at K2 ⊢
    obtain ⟨h9, H9⟩ : ∃ v, v = h8 + 1 := ⟨_, rfl⟩
    rw [← H9] at K2 ⊢
    clear H9
    obtain ⟨h10, H10⟩ : ∃ v, v = h9 + 1 := ⟨_, rfl⟩
    rw [← H10] at K2 ⊢
    clear H10
    have HG : Hid (((Int.gcd a b : Nat) : Int) = g) := HE.out.1.symm
    have Kd := K2.drew
    clear K2
    obtain ⟨⟨p0, p1⟩, ⟨p2, p3⟩, ⟨p4, p5⟩, ⟨p6, p7⟩, ⟨p8, p9⟩, ⟨pa, pb⟩, ⟨pc, pd⟩, ⟨pe, pf⟩, _⟩ := Kd.facts
    obtain ⟨_, _, _, _, _, _, ib, ia, _⟩ := Kd.ints
    go_region_held3 (fun w' => w'.cell? ⟨h10, 0, none⟩ = some (.bool (decide (y < 0))) ∧ w'.cell? ⟨h10, 1, none⟩ = some (.slice F3 l3 k3) ∧ w'.cell? ⟨h9, 0, none⟩ = some (.bool (decide (x < 0))) ∧ w'.cell? ⟨h9, 1, none⟩ = some (.slice F2 l2 k2) ∧ w'.cell? ⟨h8, 0, none⟩ = some (.bool (decide (g < 0))) ∧ w'.cell? ⟨h8, 1, none⟩ = some (.slice F1 l1 k1) ∧ w'.cell? ⟨h7, 0, none⟩ = some (.bool (decide (y < 0))) ∧ w'.cell? ⟨h7, 1, none⟩ = some (.slice A5 n5 c5) ∧ w'.cell? ⟨h6, 0, none⟩ = some (.bool (decide (x < 0))) ∧ w'.cell? ⟨h6, 1, none⟩ = some (.slice A4 n4 c4) ∧ w'.cell? ⟨h5, 0, none⟩ = some (.bool (decide (g < 0))) ∧ w'.cell? ⟨h5, 1, none⟩ = some (.slice A3 n3 c3) ∧ w'.cell? ⟨w.heap.size + 1, 0, none⟩ = some (.bool x2) ∧ w'.cell? ⟨w.heap.size + 1, 1, none⟩ = some (.slice A2 n2 c2) ∧ w'.cell? ⟨w.heap.size, 0, none⟩ = some (.bool x1) ∧ w'.cell? ⟨w.heap.size, 1, none⟩ = some (.slice A1 n1 c1))
      (go_keep)
      (first
          | (go_at_call 19; (with_reducible refine (gcd_at ia.i ib.i).mono ?_); rw [HG.out]; rintro e wa ⟨C1, q1, r1, rfl, d3, u3, v3, f3⟩; have L1 := (Kd.call f3).add (CanAt.mk_ d3 u3 v3); clear p0 p1 p2 p3 p4 p5 p6 p7 p8 p9 pa pb pc pd pe pf; obtain ⟨⟨p0, p1⟩, ⟨p2, p3⟩, ⟨p4, p5⟩, ⟨p6, p7⟩, ⟨p8, p9⟩, ⟨pa, pb⟩, ⟨pc, pd⟩, ⟨pe, pf⟩, _⟩ := L1.facts; obtain ⟨jC, jy2, jx2, jg2, jy1, jx1, jg1, _⟩ := L1.ints)
          | (go_at_call_of 18 (Value.agg #[Value.bool (decide (g < 0)), Value.slice C1 q1 r1]); (with_reducible refine (same_at jC.c jg2.c rfl).mono ?_); rintro e ws0 ⟨rfl, fs0⟩; have L2 := L1.call fs0; clear p0 p1 p2 p3 p4 p5 p6 p7 p8 p9 pa pb pc pd pe pf; obtain ⟨⟨p0, p1⟩, ⟨p2, p3⟩, ⟨p4, p5⟩, ⟨p6, p7⟩, ⟨p8, p9⟩, ⟨pa, pb⟩, ⟨pc, pd⟩, ⟨pe, pf⟩, _⟩ := L2.facts; clear jC jy2 jx2 jg2 jy1 jx1 jg1; obtain ⟨jC, jy2, jx2, jg2, jy1, jx1, jg1, _⟩ := L2.ints)
          | (go_at_call_of 18 (Value.agg #[Value.bool (decide (g < 0)), Value.slice A3 n3 c3]); (with_reducible refine (same_at jg1.c jg2.c rfl).mono ?_); rintro e ws1 ⟨rfl, fs1⟩; have L3 := L2.call fs1; clear p0 p1 p2 p3 p4 p5 p6 p7 p8 p9 pa pb pc pd pe pf; obtain ⟨⟨p0, p1⟩, ⟨p2, p3⟩, ⟨p4, p5⟩, ⟨p6, p7⟩, ⟨p8, p9⟩, ⟨pa, pb⟩, ⟨pc, pd⟩, ⟨pe, pf⟩, _⟩ := L3.facts; clear jC jy2 jx2 jg2 jy1 jx1 jg1; obtain ⟨jC, jy2, jx2, jg2, jy1, jx1, jg1, _⟩ := L3.ints)
          | (go_at_call_of 18 (Value.agg #[Value.bool (decide (x < 0)), Value.slice A4 n4 c4]); (with_reducible refine (same_at jx1.c jx2.c rfl).mono ?_); rintro e ws2 ⟨rfl, fs2⟩; have L4 := L3.call fs2; clear p0 p1 p2 p3 p4 p5 p6 p7 p8 p9 pa pb pc pd pe pf; obtain ⟨⟨p0, p1⟩, ⟨p2, p3⟩, ⟨p4, p5⟩, ⟨p6, p7⟩, ⟨p8, p9⟩, ⟨pa, pb⟩, ⟨pc, pd⟩, ⟨pe, pf⟩, _⟩ := L4.facts; clear jC jy2 jx2 jg2 jy1 jx1 jg1; obtain ⟨jC, jy2, jx2, jg2, jy1, jx1, jg1, _⟩ := L4.ints)
          | (go_at_call_of 18 (Value.agg #[Value.bool (decide (y < 0)), Value.slice A5 n5 c5]); (with_reducible refine (same_at jy1.c jy2.c rfl).mono ?_); rintro e ws3 ⟨rfl, fs3⟩; have L5 := L4.call fs3; clear p0 p1 p2 p3 p4 p5 p6 p7 p8 p9 pa pb pc pd pe pf; obtain ⟨⟨p0, p1⟩, ⟨p2, p3⟩, ⟨p4, p5⟩, ⟨p6, p7⟩, ⟨p8, p9⟩, ⟨pa, pb⟩, ⟨pc, pd⟩, ⟨pe, pf⟩, _⟩ := L5.facts; clear jC jy2 jx2 jg2 jy1 jx1 jg1; obtain ⟨jC, jy2, jx2, jg2, jy1, jx1, jg1, _⟩ := L5.ints)
          | (go_at_call 15; (with_reducible refine (awake_any _).mono ?_); rintro e wj ⟨rfl, fj⟩; have L6 := L5.call fj; clear p0 p1 p2 p3 p4 p5 p6 p7 p8 p9 pa pb pc pd pe pf; obtain ⟨⟨p0, p1⟩, ⟨p2, p3⟩, ⟨p4, p5⟩, ⟨p6, p7⟩, ⟨p8, p9⟩, ⟨pa, pb⟩, ⟨pc, pd⟩, ⟨pe, pf⟩, _⟩ := L6.facts)
          | fail)
    go_wp2
    go_ret
    exact ⟨rfl, L6.below⟩
  · have hlight := light2 (w := ((w.alloc (.cells #[.bool x1, .slice A1 n1 c1] 24)).alloc (.cells #[.bool x2, .slice A2 n2 c2] 24))) (x1 := x1) (x2 := x2) (A1 := A1) (A2 := A2) (c1 := c1) (c2 := c2) (g := w.heap.size + 1 + 1) (by simp) hn1 hn2 false (by simp; omega)
    go_enter Try.func3, Try.ntmps3
    go_wp2_with (first
      | (go_at_call 14; (with_reducible refine hlight.mono ?_); rintro e w' ⟨rfl, rfl⟩)
      | (go_at_call 15; (with_reducible refine (awake_any _).mono ?_); rintro e w1 ⟨rfl, hb1⟩))
    go_ret
    exact ⟨rfl, bcall hb3 hb1⟩
end Go.Proofs.Ytplmfdgdbolcaaa
