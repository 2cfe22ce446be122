/-
  The walk of the law IntegerDivision.
-/
import Derived.Test.YtehoafpnmfkniaaRdm
set_option linter.unusedVariables false
set_option linter.unusedSimpArgs false
namespace Go.Proofs.Ytehoafpnmfkniaa
open Go.RowKit

theorem same_can {w : World} {s s' : Bool} {A A' : Option Addr} {n c n' c' : Nat} {x : Int} (h : CanAt w s A n c x) (h' : CanAt w s' A' n' c' x) : Calls Try.prog 20 #[.agg #[.bool s, .slice A n c], .agg #[.bool s', .slice A' n' c']] w (RetT1 w) := same_at h h' rfl

set_option maxHeartbeats 8000000 in
set_option maxRecDepth 100000 in
theorem division_law (x1 x2 : Bool) (A1 A2 : Option Addr) (n1 c1 n2 c2 : Nat) (d1 d2 : List Nat) (w : World) (h1 : Dgs w w.heap.size A1 n1 d1) (h2 : Dgs w w.heap.size A2 n2 d2)
    (hc1 : n1 ≤ c1) (hm1 : c1 ≤ maxLen) (hc2 : n2 ≤ c2) (hm2 : c2 ≤ maxLen) (hn1 : n1 ≤ 140737488351232) (hn2 : n2 ≤ 140737488351232) :
    Calls Try.prog 3 #[.agg #[.bool x1, .slice A1 n1 c1], .agg #[.bool x2, .slice A2 n2 c2]] w (RetT1 w) := by
  have hb3 : Below w.heap.size w (((w.alloc (.cells #[.bool x1, .slice A1 n1 c1] 24)).alloc (.cells #[.bool x2, .slice A2 n2 c2] 24)).alloc (.cells #[.bool x1, .slice A1 n1 c1, .bool x2, .slice A2 n2 c2] 24)) := (bnew2 _ _ _).alloc (by simp; omega) _
  by_cases hl : n1 + n2 ≤ 60
  · have hlight := light2 (w := ((w.alloc (.cells #[.bool x1, .slice A1 n1 c1] 24)).alloc (.cells #[.bool x2, .slice A2 n2 c2] 24))) (x1 := x1) (x2 := x2) (A1 := A1) (A2 := A2) (c1 := c1) (c2 := c2) (g := w.heap.size + 1 + 1) (by simp) hn1 hn2 true (by simp [hl])
    have H0 := (((((St.start w).addI (s := x1) ⟨d1, h1, hc1, hm1, rfl, by omega⟩).addI (s := x2) ⟨d2, h2, hc2, hm2, rfl, by omega⟩).new 24 (Plains.two x1 A1 n1 c1)).new 24 (Plains.two x2 A2 n2 c2)).alloc (.cells #[.bool x1, .slice A1 n1 c1, .bool x2, .slice A2 n2 c2] 24)
    simp only [World.size_alloc] at H0
    have za := ((sz_of h1 x1).mono (show n1 ≤ 60 by omega)).mono (show 60 ≤ 100 by decide)
    have zb := ((sz_of h2 x2).mono (show n2 ≤ 60 by omega)).mono (show 60 ≤ 100 by decide)
    clear h1 h2 hb3 hl
    generalize zOf x1 (val d1) = a at *
    generalize zOf x2 (val d2) = b at *
    have HH := Lib.hid H0
    clear H0
    have ka := za.ok
    have kb := zb.ok
    go_enter Try.func3, Try.ntmps3
    obtain ⟨q, HQ⟩ : ∃ v, Hid (dmQ a b = v) := ⟨_, rfl⟩
    obtain ⟨r, HR⟩ : ∃ v, Hid (dmR a b = v) := ⟨_, rfl⟩
    obtain ⟨er, HE⟩ : ∃ v, Hid (dmE b = v) := ⟨_, rfl⟩
    have za2 := za.mono (show 100 ≤ 2000 by decide)
    have zb2 := zb.mono (show 100 ≤ 2000 by decide)
    go_upto_region 5 with (first
      | (go_at_call 16; (with_reducible refine hlight.mono ?_); rintro e w' ⟨rfl, rfl⟩; have K0 := HH.out; clear HH; obtain ⟨i2, i1, _⟩ := K0.ints)
      | (go_at_call 18; (with_reducible refine (divMod_at i1.i i2.i).mono ?_); rw [HQ.out, HR.out, HE.out]; rintro e w1 ⟨A3, n3, c3, A4, n4, c4, rfl, d3, u3, v3, d4, u4, v4, g1⟩; have K1 := ((((K0.call g1).add (CanAt.mk_ d3 u3 v3)).add (CanAt.mk_ d4 u4 v4)).new 24 (Plains.two (decide (q < 0)) A3 n3 c3)).new 24 (Plains.two (decide (r < 0)) A4 n4 c4); clear i2 i1; obtain ⟨_, _, i2, i1, _⟩ := K1.ints; obtain ⟨_, _, ⟨p2, p3⟩, ⟨p0, p1⟩, _⟩ := K1.facts)
      | (go_at_call 19; (with_reducible refine (rdivMod_at i1.i i2.i za2 zb2).mono ?_); rw [HQ.out, HR.out, HE.out]; rintro e w2 ⟨A5, n5, c5, A6, n6, c6, rfl, d5, u5, v5, d6, u6, v6, g2⟩; have K2 := ((((K1.call g2).add (CanAt.mk_ d5 u5 v5)).add (CanAt.mk_ d6 u6 v6)).new 24 (Plains.two (decide (q < 0)) A5 n5 c5)).new 24 (Plains.two (decide (r < 0)) A6 n6 c6))
      | fail)
    simp only [World.size_alloc] at K2
    clear K0 K1 hlight i1 i2 d3 d4 d5 d6 g1 g2 p0 p1 p2 p3
    generalize (w2.alloc (.cells #[.bool (decide (q < 0)), .slice A5 n5 c5] 24)).alloc (.cells #[.bool (decide (r < 0)), .slice A6 n6 c6] 24) = W2 at K2 ⊢
    generalize w2.heap.size = h8 at K2 ⊢
    obtain ⟨⟨p0, p1⟩, ⟨p2, p3⟩, ⟨p4, p5⟩, ⟨p6, p7⟩, _⟩ := K2.facts
    obtain ⟨i6, i5, i4, i3, _⟩ := K2.ints
    have e3 := i3.c
    have e5 := i5.c
    go_wp2_with (first
      | (go_at_call_of 20 (Value.agg #[Value.bool (decide (q < 0)), Value.slice A3 n3 c3]); (with_reducible refine (same_can e3 e5).mono ?_); rintro e w3 ⟨rfl, g3⟩; have K3 := K2.call g3; clear p0 p1 p2 p3 p4 p5 p6 p7; obtain ⟨⟨p0, p1⟩, ⟨p2, p3⟩, ⟨p4, p5⟩, ⟨p6, p7⟩, _⟩ := K3.facts; obtain ⟨j6, j5, j4, j3, _⟩ := K3.ints; have e4 := j4.c; have e6 := j6.c)
      | (go_at_call_of 20 (Value.agg #[Value.bool (decide (r < 0)), Value.slice A4 n4 c4]); (with_reducible refine (same_can e4 e6).mono ?_); rintro e w4 ⟨rfl, g4⟩; have K4 := K3.call g4)
      | (go_at_call 17; (with_reducible refine (awake_any _).mono ?_); rintro e w5 ⟨rfl, g5⟩; have K5 := K4.call g5)
      | fail)
    go_ret
    exact ⟨rfl, K5.below⟩
  · have hlight := light2 (w := ((w.alloc (.cells #[.bool x1, .slice A1 n1 c1] 24)).alloc (.cells #[.bool x2, .slice A2 n2 c2] 24))) (x1 := x1) (x2 := x2) (A1 := A1) (A2 := A2) (c1 := c1) (c2 := c2) (g := w.heap.size + 1 + 1) (by simp) hn1 hn2 false (by simp; omega)
    go_enter Try.func3, Try.ntmps3
    go_wp2_with (first
      | (go_at_call 16; (with_reducible refine hlight.mono ?_); rintro e w' ⟨rfl, rfl⟩)
      | (go_at_call 17; (with_reducible refine (awake_any _).mono ?_); rintro e w1 ⟨rfl, hb1⟩))
    go_ret
    exact ⟨rfl, bcall hb3 hb1⟩
end Go.Proofs.Ytehoafpnmfkniaa
