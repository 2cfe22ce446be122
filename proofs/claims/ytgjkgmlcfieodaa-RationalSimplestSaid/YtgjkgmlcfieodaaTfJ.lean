/-
  The walk of the law RationalSimplest.
-/
import Derived.Test.YtgjkgmlcfieodaaLightA
import Derived.Test.YtgjkgmlcfieodaaParA
import Derived.Test.YtgjkgmlcfieodaaRfrac3
import Derived.Test.YtgjkgmlcfieodaaTfI
set_option linter.unusedVariables false
set_option linter.unusedSimpArgs false
set_option warningAsError false
namespace Go.Proofs.Ytgjkgmlcfieodaa
open Go.RowKit

set_option maxHeartbeats 16000000 in
set_option maxRecDepth 100000 in
theorem simplestF_law (x1 x2 x3 x4 : Bool) (A1 A2 A3 A4 : Option Addr) (n1 c1 n2 c2 n3 c3 n4 c4 : Nat) (d1 d2 d3 d4 : List Nat) (w : World) (h1 : InP w A1 n1 c1 d1) (h2 : InP w A2 n2 c2 d2) (h3 : InP w A3 n3 c3 d3) (h4 : InP w A4 n4 c4 d4) :
    Calls Try.prog 3 #[.agg #[.bool x1, .slice A1 n1 c1, .bool x2, .slice A2 n2 c2], .agg #[.bool x3, .slice A3 n3 c3, .bool x4, .slice A4 n4 c4]] w (RetT1 w) := by
  have hb3 : Below w.heap.size w ((((w.alloc (.cells #[.bool x1, .slice A1 n1 c1, .bool x2, .slice A2 n2 c2] 26)).alloc (.cells #[.bool x3, .slice A3 n3 c3, .bool x4, .slice A4 n4 c4] 26))).alloc (.cells #[.bool x1, .slice A1 n1 c1, .bool x2, .slice A2 n2 c2, .bool x3, .slice A3 n3 c3, .bool x4, .slice A4 n4 c4] 26)) := (bnew2 _ _ _).alloc (by simp; omega) _
  have hlight := fun b hb => lightF2 (w := (((w.alloc (.cells #[.bool x1, .slice A1 n1 c1, .bool x2, .slice A2 n2 c2] 26)).alloc (.cells #[.bool x3, .slice A3 n3 c3, .bool x4, .slice A4 n4 c4] 26)))) (s0 := x1) (t0 := x2) (s1 := x3) (t1 := x4) (A0 := A1) (B0 := A2) (A1 := A3) (B1 := A4) (n0 := n1) (c0 := c1) (m0 := n2) (d0 := c2) (n1 := n3) (c1 := c3) (m1 := n4) (d1 := c4) (g := w.heap.size + 1 + 1) (by simp) h1.2.2.2 h2.2.2.2 h3.2.2.2 h4.2.2.2 b hb
  by_cases hl : (n1 ≤ 12 ∧ n2 ≤ 12) ∧ (n3 ≤ 12 ∧ n4 ≤ 12)
  · have hlight := hlight true (by simpa using hl)
    obtain ⟨⟨l1, l2⟩, l3, l4⟩ := hl
    have H0 := (((((((St.start w).addI (h1.i x1 l1)).addI (h2.i x2 l2)).addI (h3.i x3 l3)).addI (h4.i x4 l4)).new 26 (Plains.four x1 A1 n1 c1 x2 A2 n2 c2)).new 26 (Plains.four x3 A3 n3 c3 x4 A4 n4 c4)).alloc (.cells #[.bool x1, .slice A1 n1 c1, .bool x2, .slice A2 n2 c2, .bool x3, .slice A3 n3 c3, .bool x4, .slice A4 n4 c4] 26)
    simp only [World.size_alloc] at H0
    have y1 := h1.z x1 l1
    have y2 := h2.z x2 l2
    have y3 := h3.z x3 l3
    have y4 := h4.z x4 l4
    have m1 : n1 ≤ 100000 := by omega
    have m2 : n2 ≤ 100000 := by omega
    have m3 : n3 ≤ 100000 := by omega
    have m4 : n4 ≤ 100000 := by omega
    clear h1 h2 h3 h4 hb3 l1 l2 l3 l4
    generalize zOf x1 (val d1) = a at *
    generalize zOf x2 (val d2) = b at *
    generalize zOf x3 (val d3) = c at *
    generalize zOf x4 (val d4) = d at *
    have za50 : Sz a 50 := y1.mono (by decide)
    have zb50 : Sz b 50 := y2.mono (by decide)
    have zc50 : Sz c 50 := y3.mono (by decide)
    have zd50 : Sz d 50 := y4.mono (by decide)
    clear y1 y2 y3 y4
    obtain ⟨q, HQ⟩ : ∃ v, Hid ((smQ (rn a b) (rd a b) (rn c d) (rd c d)).1 = v) := ⟨_, rfl⟩
    obtain ⟨r, HR⟩ : ∃ v, Hid ((smQ (rn a b) (rd a b) (rn c d) (rd c d)).2 = v) := ⟨_, rfl⟩
    obtain ⟨er, HE⟩ : ∃ v, Hid (smE (rn a b) (rd a b) (rn c d) (rd c d) = v) := ⟨_, rfl⟩
    have HH := Lib.hid H0
    clear H0
    go_enter Try.func3, Try.ntmps3
    go_upto_region 4 with (first
      | (go_at_call 5; (with_reducible refine hlight.mono ?_); rintro e w0 ⟨rfl, g0⟩; have K0 := HH.out.call g0; clear HH; have i1 := K0.ints.2.2.2.1.i; have i2 := K0.ints.2.2.1.i; have i3 := K0.ints.2.1.i; have i4 := K0.ints.1.i; obtain ⟨⟨p4, p5, p6, p7⟩, ⟨p0, p1, p2, p3⟩, _⟩ := K0.facts)
      | (go_at_call 7; (with_reducible refine (simplest_at i1 i2 i3 i4 za50 zb50 zc50 zd50).mono ?_); rw [HQ.out, HR.out, HE.out]; rintro e w1 ⟨D1, o1, r1, D2, o2, r2, rfl, e1, e2, g1⟩; have K1 := (((K0.call g1).add e2).add e1).new 26 (Plains.four (decide (q < 0)) D1 o1 r1 (decide (r < 0)) D2 o2 r2))
      | fail)
    clear K0 hlight i1 i2 i3 i4 e1 e2 g1 p0 p1 p2 p3 p4 p5 p6 p7
    generalize w1.alloc (.cells #[.bool (decide (q < 0)), .slice D1 o1 r1, .bool (decide (r < 0)), .slice D2 o2 r2] 26) = W1 at K1 ⊢
    generalize w1.heap.size = h5 at K1 ⊢
    have i1 := K1.ints.2.2.2.2.2.1.i
    have i2 := K1.ints.2.2.2.2.1.i
    have i3 := K1.ints.2.2.2.1.i
    have i4 := K1.ints.2.2.1.i
    obtain ⟨_, ⟨p4, p5, p6, p7⟩, ⟨p0, p1, p2, p3⟩, _⟩ := K1.facts
    go_upto_region 5 with (first
      | (go_at_call 8; (with_reducible refine (rsimplest_at i1 i2 i3 i4 za50 zb50 zc50 zd50).mono ?_); rw [HQ.out, HR.out, HE.out]; rintro e w2 ⟨D3, o3, r3, D4, o4, r4, rfl, e3, e4, g2⟩; have K2 := (((K1.call g2).add e4).add e3).new 26 (Plains.four (decide (q < 0)) D3 o3 r3 (decide (r < 0)) D4 o4 r4))
      | fail)
    clear K1 i1 i2 i3 i4 e3 e4 g2 p0 p1 p2 p3 p4 p5 p6 p7
    generalize w2.alloc (.cells #[.bool (decide (q < 0)), .slice D3 o3 r3, .bool (decide (r < 0)), .slice D4 o4 r4] 26) = W2 at K2 ⊢
    generalize w2.heap.size = h7 at K2 ⊢
    obtain ⟨⟨p0, p1, p2, p3⟩, ⟨p4, p5, p6, p7⟩, _⟩ := K2.facts
    go_wp2_with (first
      | (go_at_call 9; have j1 := K2.ints.2.2.1.c; have j2 := K2.ints.2.2.2.1.c; have j3 := K2.ints.1.c; have j4 := K2.ints.2.1.c; (with_reducible refine (same2_at j1 j2 j3 j4).mono ?_); rintro e w3 ⟨rfl, g3⟩; have K3 := K2.call g3)
      | (go_at_call 6; (with_reducible refine (awake2_any _).mono ?_); rintro e w4 ⟨rfl, g4⟩; have K4 := K3.call g4)
      | fail)
    go_ret
    exact ⟨rfl, K4.below⟩
  · have hlight := hlight false (by simpa using hl)
    go_enter Try.func3, Try.ntmps3
    go_wp2_with (first
      | (go_at_call 5; (with_reducible refine hlight.mono ?_); rintro e w0 ⟨rfl, g0⟩)
      | (go_at_call 6; (with_reducible refine (awake2_any _).mono ?_); rintro e w1 ⟨rfl, hb1⟩))
    go_ret
    exact ⟨rfl, bcall (bcall hb3 g0) hb1⟩
end Go.Proofs.Ytgjkgmlcfieodaa

