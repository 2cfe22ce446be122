/-
  The walk of the law RationalArithmetic.
-/
import Derived.Test.YtplmfdgdbolcaaaLightF2
import Derived.Test.YtplmfdgdbolcaaaMakesW
import Derived.Test.YtplmfdgdbolcaaaRfrac3
set_option linter.unusedVariables false
set_option linter.unusedSimpArgs false
namespace Go.Proofs.Ytplmfdgdbolcaaa
open Go.RowKit

/-- A parameter's integer. -/
def InP (w : World) (A : Option Addr) (n c : Nat) (ds : List Nat) : Prop := Dgs w w.heap.size A n ds ∧ n ≤ c ∧ c ≤ maxLen ∧ n ≤ 140737488351232
theorem InP.i {w : World} {A : Option Addr} {n c : Nat} {ds : List Nat} (h : InP w A n c ds) (s : Bool) (hn : n ≤ 12) : IntAt w s A n c (zOf s (val ds)) := ⟨ds, h.1, h.2.1, h.2.2.1, rfl, by omega⟩
theorem InP.z {w : World} {A : Option Addr} {n c : Nat} {ds : List Nat} (h : InP w A n c ds) (s : Bool) (hn : n ≤ 12) : Sz (zOf s (val ds)) 12 := (sz_of h.1 s).mono hn

set_option maxHeartbeats 16000000 in
set_option maxRecDepth 100000 in
theorem arithF_law (x1 x2 x3 x4 : Bool) (A1 A2 A3 A4 : Option Addr) (n1 c1 n2 c2 n3 c3 n4 c4 : Nat) (d1 d2 d3 d4 : List Nat) (w : World) (h1 : InP w A1 n1 c1 d1) (h2 : InP w A2 n2 c2 d2) (h3 : InP w A3 n3 c3 d3) (h4 : InP w A4 n4 c4 d4) :
    Calls Try.prog 6 #[.agg #[.bool x1, .slice A1 n1 c1, .bool x2, .slice A2 n2 c2], .agg #[.bool x3, .slice A3 n3 c3, .bool x4, .slice A4 n4 c4]] w (RetT1 w) := by
  have hb3 : Below w.heap.size w ((((w.alloc (.cells #[.bool x1, .slice A1 n1 c1, .bool x2, .slice A2 n2 c2] 42)).alloc (.cells #[.bool x3, .slice A3 n3 c3, .bool x4, .slice A4 n4 c4] 42))).alloc (.cells #[.bool x1, .slice A1 n1 c1, .bool x2, .slice A2 n2 c2, .bool x3, .slice A3 n3 c3, .bool x4, .slice A4 n4 c4] 42)) := (bnew2 _ _ _).alloc (by simp; omega) _
  have hlight := fun b hb => lightF2 (w := (((w.alloc (.cells #[.bool x1, .slice A1 n1 c1, .bool x2, .slice A2 n2 c2] 42)).alloc (.cells #[.bool x3, .slice A3 n3 c3, .bool x4, .slice A4 n4 c4] 42)))) (s0 := x1) (t0 := x2) (s1 := x3) (t1 := x4) (A0 := A1) (B0 := A2) (A1 := A3) (B1 := A4) (n0 := n1) (c0 := c1) (m0 := n2) (d0 := c2) (n1 := n3) (c1 := c3) (m1 := n4) (d1 := c4) (g := w.heap.size + 1 + 1) (by simp) h1.2.2.2 h2.2.2.2 h3.2.2.2 h4.2.2.2 b hb
  by_cases hl : (n1 ≤ 12 ∧ n2 ≤ 12) ∧ (n3 ≤ 12 ∧ n4 ≤ 12)
  · have hlight := hlight true (by simpa using hl)
    obtain ⟨⟨l1, l2⟩, l3, l4⟩ := hl
    have H0 := (((((((St.start w).addI (h1.i x1 l1)).addI (h2.i x2 l2)).addI (h3.i x3 l3)).addI (h4.i x4 l4)).new 42 (Plains.four x1 A1 n1 c1 x2 A2 n2 c2)).new 42 (Plains.four x3 A3 n3 c3 x4 A4 n4 c4)).alloc (.cells #[.bool x1, .slice A1 n1 c1, .bool x2, .slice A2 n2 c2, .bool x3, .slice A3 n3 c3, .bool x4, .slice A4 n4 c4] 42)
    simp only [World.size_alloc] at H0
    have y1 := h1.z x1 l1
    have y2 := h2.z x2 l2
    have y3 := h3.z x3 l3
    have y4 := h4.z x4 l4
    have m1 : n1 ≤ 100000 := by omega
    have m2 : n2 ≤ 100000 := by omega
    have m3 : n3 ≤ 100000 := by omega
    have m4 : n4 ≤ 100000 := by omega
    clear h1 h2 h3 h4 hb3 l1 l2 l3 l4
    generalize zOf x1 (val d1) = a at *
    generalize zOf x2 (val d2) = b at *
    generalize zOf x3 (val d3) = c at *
    generalize zOf x4 (val d4) = d at *
    have za900 : Sz a 900 := y1.mono (by decide)
    have za910 : Sz a 910 := y1.mono (by decide)
    have za1900 : Sz a 1900 := y1.mono (by decide)
    have za2000 : Sz a 2000 := y1.mono (by decide)
    have zb900 : Sz b 900 := y2.mono (by decide)
    have zb910 : Sz b 910 := y2.mono (by decide)
    have zb1900 : Sz b 1900 := y2.mono (by decide)
    have zb2000 : Sz b 2000 := y2.mono (by decide)
    have zc900 : Sz c 900 := y3.mono (by decide)
    have zc910 : Sz c 910 := y3.mono (by decide)
    have zc1900 : Sz c 1900 := y3.mono (by decide)
    have zc2000 : Sz c 2000 := y3.mono (by decide)
    have zd900 : Sz d 900 := y4.mono (by decide)
    have zd910 : Sz d 910 := y4.mono (by decide)
    have zd1900 : Sz d 1900 := y4.mono (by decide)
    have zd2000 : Sz d 2000 := y4.mono (by decide)
    clear y1 y2 y3 y4
    obtain ⟨q, HQ⟩ : ∃ v, Hid (dvN a b c d = v) := ⟨_, rfl⟩
    obtain ⟨r, HR⟩ : ∃ v, Hid (dvD a b c d = v) := ⟨_, rfl⟩
    obtain ⟨er, HE⟩ : ∃ v, Hid (dvE c d = v) := ⟨_, rfl⟩
    obtain ⟨cm, HC⟩ : ∃ v, Hid (cmpI (un a b * ud c d) (un c d * ud a b) = v) := ⟨_, rfl⟩
    have HC2 : Hid (cmpI (rn a b * rd c d) (rn c d * rd a b) = cm) := (cmp_same a b c d).symm.trans HC.out
    obtain ⟨sg, HS⟩ : ∃ v, Hid (sgn a * sgn b = v) := ⟨_, rfl⟩
    have HS2 : Hid (sgn (rn a b) = sg) := (sgn_rn a b).trans HS.out
    obtain ⟨xn, HXN⟩ : ∃ v, Hid (-rn a b = v) := ⟨_, rfl⟩
    obtain ⟨xa, HXA⟩ : ∃ v, Hid (((rn a b).natAbs : Int) = v) := ⟨_, rfl⟩
    obtain ⟨yr, HYR⟩ : ∃ v, Hid (rd a b = v) := ⟨_, rfl⟩
    have HN1 : Hid (rn (-a) b = xn ∧ rd (-a) b = yr) := ⟨(neg_same a b).1.trans HXN.out, (neg_same a b).2.trans HYR.out⟩
    have HA1 : Hid (rn (a.natAbs : Int) (b.natAbs : Int) = xa ∧ rd (a.natAbs : Int) (b.natAbs : Int) = yr) := ⟨(abs_same a b).1.trans HXA.out, (abs_same a b).2.trans HYR.out⟩
    obtain ⟨xs, HXS⟩ : ∃ v, Hid (aN a b c d = v) := ⟨_, rfl⟩
    obtain ⟨ys, HYS⟩ : ∃ v, Hid (aD a b c d = v) := ⟨_, rfl⟩
    obtain ⟨xd, HXD⟩ : ∃ v, Hid (aN a b (-c) d = v) := ⟨_, rfl⟩
    obtain ⟨yd, HYD⟩ : ∃ v, Hid (aD a b (-c) d = v) := ⟨_, rfl⟩
    obtain ⟨xm, HXM⟩ : ∃ v, Hid (rn (a * c) (b * d) = v) := ⟨_, rfl⟩
    obtain ⟨ym, HYM⟩ : ∃ v, Hid (rd (a * c) (b * d) = v) := ⟨_, rfl⟩
    have HH := Lib.hid H0
    clear H0
    go_enter Try.func6, Try.ntmps6
    go_upto_region 4 with (first
      | (go_at_call 31; (with_reducible refine hlight.mono ?_); rintro e w0 ⟨rfl, g0⟩; have K0 := HH.out.call g0; clear HH; have i1 := K0.ints.2.2.2.1.i; have i2 := K0.ints.2.2.1.i; have i3 := K0.ints.2.1.i; have i4 := K0.ints.1.i; obtain ⟨⟨p4, p5, p6, p7⟩, ⟨p0, p1, p2, p3⟩, _⟩ := K0.facts)
      | (go_at_call 33; (with_reducible refine (fdiv_at i1 i2 i3 i4 za900 zb900 zc900 zd900).mono ?_); rw [HQ.out, HR.out, HE.out]; rintro e w1 ⟨D1, o1, r1, D2, o2, r2, rfl, e1, e2, g1⟩; have K1 := (((K0.call g1).add e2).add e1).new 42 (Plains.four (decide (q < 0)) D1 o1 r1 (decide (r < 0)) D2 o2 r2))
      | fail)
    clear K0 hlight i1 i2 i3 i4 e1 e2 g1 p0 p1 p2 p3 p4 p5 p6 p7
    generalize w1.alloc (.cells #[.bool (decide (q < 0)), .slice D1 o1 r1, .bool (decide (r < 0)), .slice D2 o2 r2] 42) = W1 at K1 ⊢
    generalize w1.heap.size = h5 at K1 ⊢
    have i1 := K1.ints.2.2.2.2.2.1.i
    have i2 := K1.ints.2.2.2.2.1.i
    have i3 := K1.ints.2.2.2.1.i
    have i4 := K1.ints.2.2.1.i
    obtain ⟨_, ⟨p4, p5, p6, p7⟩, ⟨p0, p1, p2, p3⟩, _⟩ := K1.facts
    go_upto_region 5 with (first
      | (go_at_call 34; (with_reducible refine (rdivF_at i1 i2 i3 i4 za900 zb900 zc900 zd900).mono ?_); rw [HQ.out, HR.out, HE.out]; rintro e w2 ⟨D3, o3, r3, D4, o4, r4, rfl, e3, e4, g2⟩; have K2 := (((K1.call g2).add e4).add e3).new 42 (Plains.four (decide (q < 0)) D3 o3 r3 (decide (r < 0)) D4 o4 r4))
      | fail)
    clear K1 i1 i2 i3 i4 e3 e4 g2 p0 p1 p2 p3 p4 p5 p6 p7
    generalize w2.alloc (.cells #[.bool (decide (q < 0)), .slice D3 o3 r3, .bool (decide (r < 0)), .slice D4 o4 r4] 42) = W2 at K2 ⊢
    generalize w2.heap.size = h7 at K2 ⊢
    have KL := K2.drew
    clear K2
    obtain ⟨⟨p0, p1, p2, p3⟩, ⟨p4, p5, p6, p7⟩, ⟨p8, p9, pa, pb⟩, ⟨pc, pd, pe, pf⟩, _⟩ := KL.facts
    have i1 := KL.ints.2.2.2.2.2.2.2.1.i
    have i2 := KL.ints.2.2.2.2.2.2.1.i
    have i3 := KL.ints.2.2.2.2.2.1.i
    have i4 := KL.ints.2.2.2.2.1.i
    simp only [List.append_eq, List.cons_append, List.nil_append]
    go_region_held3 (fun w' => w'.cell? ⟨h7, 0, none⟩ = some (.bool (decide (q < 0))) ∧ w'.cell? ⟨h7, 1, none⟩ = some (.slice D3 o3 r3) ∧ w'.cell? ⟨h7, 2, none⟩ = some (.bool (decide (r < 0))) ∧ w'.cell? ⟨h7, 3, none⟩ = some (.slice D4 o4 r4) ∧ w'.cell? ⟨h5, 0, none⟩ = some (.bool (decide (q < 0))) ∧ w'.cell? ⟨h5, 1, none⟩ = some (.slice D1 o1 r1) ∧ w'.cell? ⟨h5, 2, none⟩ = some (.bool (decide (r < 0))) ∧ w'.cell? ⟨h5, 3, none⟩ = some (.slice D2 o2 r2) ∧ w'.cell? ⟨w.heap.size + 1, 0, none⟩ = some (.bool x3) ∧ w'.cell? ⟨w.heap.size + 1, 1, none⟩ = some (.slice A3 n3 c3) ∧ w'.cell? ⟨w.heap.size + 1, 2, none⟩ = some (.bool x4) ∧ w'.cell? ⟨w.heap.size + 1, 3, none⟩ = some (.slice A4 n4 c4) ∧ w'.cell? ⟨w.heap.size, 0, none⟩ = some (.bool x1) ∧ w'.cell? ⟨w.heap.size, 1, none⟩ = some (.slice A1 n1 c1) ∧ w'.cell? ⟨w.heap.size, 2, none⟩ = some (.bool x2) ∧ w'.cell? ⟨w.heap.size, 3, none⟩ = some (.slice A2 n2 c2))
      (go_keep)
      (first
        | (go_at_call_of 39 (Value.agg #[Value.bool (decide (q < 0)), Value.slice D1 o1 r1, Value.bool (decide (r < 0)), Value.slice D2 o2 r2]); have j1 := KL.ints.2.2.1.c; have j2 := KL.ints.2.2.2.1.c; have j3 := KL.ints.1.c; have j4 := KL.ints.2.1.c; (with_reducible refine (same2_at j1 j2 j3 j4).mono ?_); rintro e wn ⟨rfl, gn⟩; have KM := KL.call gn; clear KL; have KL := KM; clear KM; clear p0 p1 p2 p3 p4 p5 p6 p7 p8 p9 pa pb pc pd pe pf; obtain ⟨⟨p0, p1, p2, p3⟩, ⟨p4, p5, p6, p7⟩, ⟨p8, p9, pa, pb⟩, ⟨pc, pd, pe, pf⟩, _⟩ := KL.facts; replace i1 := i1.call gn; replace i2 := i2.call gn; replace i3 := i3.call gn; replace i4 := i4.call gn)
        | (go_at_call 39; (with_reducible refine (same2_at e1 e2 e3 e4).mono ?_); rintro e wn ⟨rfl, gn⟩; have KM := KL.call gn; clear KL; have KL := KM; clear KM; clear p0 p1 p2 p3 p4 p5 p6 p7 p8 p9 pa pb pc pd pe pf; obtain ⟨⟨p0, p1, p2, p3⟩, ⟨p4, p5, p6, p7⟩, ⟨p8, p9, pa, pb⟩, ⟨pc, pd, pe, pf⟩, _⟩ := KL.facts; replace i1 := i1.call gn; replace i2 := i2.call gn; replace i3 := i3.call gn; replace i4 := i4.call gn)
        | (go_at_call 35; (with_reducible refine (fcompare_at i1 i2 i3 i4 za2000 zb2000 zc2000 zd2000).mono ?_); rw [HC.out]; rintro e wn ⟨rfl, gn⟩; have KM := KL.call gn; clear KL; have KL := KM; clear KM; clear p0 p1 p2 p3 p4 p5 p6 p7 p8 p9 pa pb pc pd pe pf; obtain ⟨⟨p0, p1, p2, p3⟩, ⟨p4, p5, p6, p7⟩, ⟨p8, p9, pa, pb⟩, ⟨pc, pd, pe, pf⟩, _⟩ := KL.facts; replace i1 := i1.call gn; replace i2 := i2.call gn; replace i3 := i3.call gn; replace i4 := i4.call gn)
        | (go_at_call 36; (with_reducible refine (rcompareF_at i1 i2 i3 i4 za900 zb900 zc900 zd900).mono ?_); rw [HC2.out]; rintro e wn ⟨rfl, gn⟩; have KM := KL.call gn; clear KL; have KL := KM; clear KM; clear p0 p1 p2 p3 p4 p5 p6 p7 p8 p9 pa pb pc pd pe pf; obtain ⟨⟨p0, p1, p2, p3⟩, ⟨p4, p5, p6, p7⟩, ⟨p8, p9, pa, pb⟩, ⟨pc, pd, pe, pf⟩, _⟩ := KL.facts; replace i1 := i1.call gn; replace i2 := i2.call gn; replace i3 := i3.call gn; replace i4 := i4.call gn)
        | (go_at_call 37; (with_reducible refine (fsign_at i1 i2).mono ?_); rw [HS.out]; rintro e wn ⟨rfl, gn⟩; have KM := KL.call gn; clear KL; have KL := KM; clear KM; clear p0 p1 p2 p3 p4 p5 p6 p7 p8 p9 pa pb pc pd pe pf; obtain ⟨⟨p0, p1, p2, p3⟩, ⟨p4, p5, p6, p7⟩, ⟨p8, p9, pa, pb⟩, ⟨pc, pd, pe, pf⟩, _⟩ := KL.facts; replace i1 := i1.call gn; replace i2 := i2.call gn; replace i3 := i3.call gn; replace i4 := i4.call gn)
        | (go_at_call 38; (with_reducible refine (rsignF_at i1 i2 za1900 zb1900).mono ?_); rw [HS2.out]; rintro e wn ⟨rfl, gn⟩; have KM := KL.call gn; clear KL; have KL := KM; clear KM; clear p0 p1 p2 p3 p4 p5 p6 p7 p8 p9 pa pb pc pd pe pf; obtain ⟨⟨p0, p1, p2, p3⟩, ⟨p4, p5, p6, p7⟩, ⟨p8, p9, pa, pb⟩, ⟨pc, pd, pe, pf⟩, _⟩ := KL.facts; replace i1 := i1.call gn; replace i2 := i2.call gn; replace i3 := i3.call gn; replace i4 := i4.call gn)
        | (go_at_call 40; (with_reducible refine (fneg_at i1 i2 za2000 zb2000).mono ?_); rw [HXN.out, HYR.out]; rintro e wn ⟨E1, l1, k1, E2, l2, k2, rfl, e1, e2, gn⟩; have KM := KL.call gn; clear KL; have KL := KM; clear KM; clear p0 p1 p2 p3 p4 p5 p6 p7 p8 p9 pa pb pc pd pe pf; obtain ⟨⟨p0, p1, p2, p3⟩, ⟨p4, p5, p6, p7⟩, ⟨p8, p9, pa, pb⟩, ⟨pc, pd, pe, pf⟩, _⟩ := KL.facts; replace i1 := i1.call gn; replace i2 := i2.call gn; replace i3 := i3.call gn; replace i4 := i4.call gn)
        | (go_at_call 41; (with_reducible refine (rnegF_at i1 i2 za1900 zb1900).mono ?_); rw [HN1.out.1, HN1.out.2]; rintro e wn ⟨E3, l3, k3, E4, l4, k4, rfl, e3, e4, gn⟩; have KM := KL.call gn; clear KL; have KL := KM; clear KM; clear p0 p1 p2 p3 p4 p5 p6 p7 p8 p9 pa pb pc pd pe pf; obtain ⟨⟨p0, p1, p2, p3⟩, ⟨p4, p5, p6, p7⟩, ⟨p8, p9, pa, pb⟩, ⟨pc, pd, pe, pf⟩, _⟩ := KL.facts; replace i1 := i1.call gn; replace i2 := i2.call gn; replace i3 := i3.call gn; replace i4 := i4.call gn; replace e1 := e1.call gn; replace e2 := e2.call gn)
        | (go_at_call 42; (with_reducible refine (fabs_at i1 i2 za2000 zb2000).mono ?_); rw [HXA.out, HYR.out]; rintro e wn ⟨E1, l1, k1, E2, l2, k2, rfl, e1, e2, gn⟩; have KM := KL.call gn; clear KL; have KL := KM; clear KM; clear p0 p1 p2 p3 p4 p5 p6 p7 p8 p9 pa pb pc pd pe pf; obtain ⟨⟨p0, p1, p2, p3⟩, ⟨p4, p5, p6, p7⟩, ⟨p8, p9, pa, pb⟩, ⟨pc, pd, pe, pf⟩, _⟩ := KL.facts; replace i1 := i1.call gn; replace i2 := i2.call gn; replace i3 := i3.call gn; replace i4 := i4.call gn)
        | (go_at_call 43; (with_reducible refine (rabsF_at i1 i2 za1900 zb1900).mono ?_); rw [HA1.out.1, HA1.out.2]; rintro e wn ⟨E3, l3, k3, E4, l4, k4, rfl, e3, e4, gn⟩; have KM := KL.call gn; clear KL; have KL := KM; clear KM; clear p0 p1 p2 p3 p4 p5 p6 p7 p8 p9 pa pb pc pd pe pf; obtain ⟨⟨p0, p1, p2, p3⟩, ⟨p4, p5, p6, p7⟩, ⟨p8, p9, pa, pb⟩, ⟨pc, pd, pe, pf⟩, _⟩ := KL.facts; replace i1 := i1.call gn; replace i2 := i2.call gn; replace i3 := i3.call gn; replace i4 := i4.call gn; replace e1 := e1.call gn; replace e2 := e2.call gn)
        | (go_at_call 44; (with_reducible refine (fadd_at i1 i2 i3 i4 za900 zb900 zc900 zd900).mono ?_); rw [HXS.out, HYS.out]; rintro e wn ⟨E1, l1, k1, E2, l2, k2, rfl, e1, e2, gn⟩; have KM := KL.call gn; clear KL; have KL := KM; clear KM; clear p0 p1 p2 p3 p4 p5 p6 p7 p8 p9 pa pb pc pd pe pf; obtain ⟨⟨p0, p1, p2, p3⟩, ⟨p4, p5, p6, p7⟩, ⟨p8, p9, pa, pb⟩, ⟨pc, pd, pe, pf⟩, _⟩ := KL.facts; replace i1 := i1.call gn; replace i2 := i2.call gn; replace i3 := i3.call gn; replace i4 := i4.call gn)
        | (go_at_call 45; (with_reducible refine (raddF_at i1 i2 i3 i4 za910 zb910 zc910 zd910).mono ?_); rw [HXS.out, HYS.out]; rintro e wn ⟨E3, l3, k3, E4, l4, k4, rfl, e3, e4, gn⟩; have KM := KL.call gn; clear KL; have KL := KM; clear KM; clear p0 p1 p2 p3 p4 p5 p6 p7 p8 p9 pa pb pc pd pe pf; obtain ⟨⟨p0, p1, p2, p3⟩, ⟨p4, p5, p6, p7⟩, ⟨p8, p9, pa, pb⟩, ⟨pc, pd, pe, pf⟩, _⟩ := KL.facts; replace i1 := i1.call gn; replace i2 := i2.call gn; replace i3 := i3.call gn; replace i4 := i4.call gn; replace e1 := e1.call gn; replace e2 := e2.call gn)
        | (go_at_call 46; (with_reducible refine (fsub_at i1 i2 i3 i4 za900 zb900 zc900 zd900).mono ?_); rw [HXD.out, HYD.out]; rintro e wn ⟨E1, l1, k1, E2, l2, k2, rfl, e1, e2, gn⟩; have KM := KL.call gn; clear KL; have KL := KM; clear KM; clear p0 p1 p2 p3 p4 p5 p6 p7 p8 p9 pa pb pc pd pe pf; obtain ⟨⟨p0, p1, p2, p3⟩, ⟨p4, p5, p6, p7⟩, ⟨p8, p9, pa, pb⟩, ⟨pc, pd, pe, pf⟩, _⟩ := KL.facts; replace i1 := i1.call gn; replace i2 := i2.call gn; replace i3 := i3.call gn; replace i4 := i4.call gn)
        | (go_at_call 47; (with_reducible refine (rsubF_at i1 i2 i3 i4 za900 zb900 zc900 zd900).mono ?_); rw [HXD.out, HYD.out]; rintro e wn ⟨E3, l3, k3, E4, l4, k4, rfl, e3, e4, gn⟩; have KM := KL.call gn; clear KL; have KL := KM; clear KM; clear p0 p1 p2 p3 p4 p5 p6 p7 p8 p9 pa pb pc pd pe pf; obtain ⟨⟨p0, p1, p2, p3⟩, ⟨p4, p5, p6, p7⟩, ⟨p8, p9, pa, pb⟩, ⟨pc, pd, pe, pf⟩, _⟩ := KL.facts; replace i1 := i1.call gn; replace i2 := i2.call gn; replace i3 := i3.call gn; replace i4 := i4.call gn; replace e1 := e1.call gn; replace e2 := e2.call gn)
        | (go_at_call 48; (with_reducible refine (fmul_at i1 i2 i3 i4 za900 zb900 zc900 zd900).mono ?_); rw [HXM.out, HYM.out]; rintro e wn ⟨E1, l1, k1, E2, l2, k2, rfl, e1, e2, gn⟩; have KM := KL.call gn; clear KL; have KL := KM; clear KM; clear p0 p1 p2 p3 p4 p5 p6 p7 p8 p9 pa pb pc pd pe pf; obtain ⟨⟨p0, p1, p2, p3⟩, ⟨p4, p5, p6, p7⟩, ⟨p8, p9, pa, pb⟩, ⟨pc, pd, pe, pf⟩, _⟩ := KL.facts; replace i1 := i1.call gn; replace i2 := i2.call gn; replace i3 := i3.call gn; replace i4 := i4.call gn)
        | (go_at_call 49; (with_reducible refine (rmulF_at i1 i2 i3 i4 za900 zb900 zc900 zd900 m1 m2 m3 m4).mono ?_); rw [HXM.out, HYM.out]; rintro e wn ⟨E3, l3, k3, E4, l4, k4, rfl, e3, e4, gn⟩; have KM := KL.call gn; clear KL; have KL := KM; clear KM; clear p0 p1 p2 p3 p4 p5 p6 p7 p8 p9 pa pb pc pd pe pf; obtain ⟨⟨p0, p1, p2, p3⟩, ⟨p4, p5, p6, p7⟩, ⟨p8, p9, pa, pb⟩, ⟨pc, pd, pe, pf⟩, _⟩ := KL.facts; replace i1 := i1.call gn; replace i2 := i2.call gn; replace i3 := i3.call gn; replace i4 := i4.call gn; replace e1 := e1.call gn; replace e2 := e2.call gn)
        | (go_at_call 32; (with_reducible refine (awake2_any _).mono ?_); rintro e wn ⟨rfl, gn⟩; have KM := KL.call gn; clear KL; have KL := KM; clear KM; clear p0 p1 p2 p3 p4 p5 p6 p7 p8 p9 pa pb pc pd pe pf; obtain ⟨⟨p0, p1, p2, p3⟩, ⟨p4, p5, p6, p7⟩, ⟨p8, p9, pa, pb⟩, ⟨pc, pd, pe, pf⟩, _⟩ := KL.facts; replace i1 := i1.call gn; replace i2 := i2.call gn; replace i3 := i3.call gn; replace i4 := i4.call gn)
        | fail)
    all_goals (go_wp2; go_ret; exact ⟨rfl, KL.below⟩)
  · have hlight := hlight false (by simpa using hl)
    go_enter Try.func6, Try.ntmps6
    go_wp2_with (first
      | (go_at_call 31; (with_reducible refine hlight.mono ?_); rintro e w0 ⟨rfl, g0⟩)
      | (go_at_call 32; (with_reducible refine (awake2_any _).mono ?_); rintro e w1 ⟨rfl, hb1⟩))
    go_ret
    exact ⟨rfl, bcall (bcall hb3 g0) hb1⟩
end Go.Proofs.Ytplmfdgdbolcaaa
