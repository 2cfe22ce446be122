/-
  The law RationalDecimals walked: Decimal agrees with the reference's.
-/
import Derived.Test.YtkhficmehjglmaaGreatTdC
import Derived.Test.YtkhficmehjglmaaGreatLightA
import Derived.Test.YtkhficmehjglmaaGreatParA
import Derived.Test.YtkhficmehjglmaaGreatFrcC
set_option linter.unusedVariables false
set_option linter.unusedSimpArgs false
namespace Go.Proofs.YtkhficmehjglmaaGreat
open Go.RowKit

set_option maxHeartbeats 16000000 in
set_option maxRecDepth 100000 in
theorem decimals_law (x1 x2 : Bool) (A1 A2 : Option Addr) (n1 c1 n2 c2 : Nat) (d1 d2 : List Nat) (N : Int) (w : World) (h1 : InP w A1 n1 c1 d1) (h2 : InP w A2 n2 c2 d2) :
    Calls Tryz.prog 4 #[.agg #[.bool x1, .slice A1 n1 c1, .bool x2, .slice A2 n2 c2], .int .i64 N] w (RetT1 w) := by
  have hb3 : Below w.heap.size w ((w.alloc (.cells #[.bool x1, .slice A1 n1 c1, .bool x2, .slice A2 n2 c2] 26)).alloc (.cells #[.bool x1, .slice A1 n1 c1, .bool x2, .slice A2 n2 c2] 26)) := bnew2 _ _ _
  have hlight := fun b hb => lightF1 (w := (w.alloc (.cells #[.bool x1, .slice A1 n1 c1, .bool x2, .slice A2 n2 c2] 26))) (s0 := x1) (t0 := x2) (A0 := A1) (B0 := A2) (n0 := n1) (c0 := c1) (m0 := n2) (d0 := c2) (g := w.heap.size + 1) (by simp) h1.2.2.2 h2.2.2.2 b hb
  by_cases hl : (n1 ≤ 12 ∧ n2 ≤ 12)
  · have hlight := hlight true (by simpa using hl)
    obtain ⟨l1, l2⟩ := hl
    have H0 := ((((St.start w).addI (h1.i x1 l1)).addI (h2.i x2 l2)).new 26 (Plains.four x1 A1 n1 c1 x2 A2 n2 c2)).alloc (.cells #[.bool x1, .slice A1 n1 c1, .bool x2, .slice A2 n2 c2] 26)
    (try simp only [World.size_alloc] at H0)
    have y1 := h1.z x1 l1
    have y2 := h2.z x2 l2
    have m1 : n1 ≤ 100000 := by omega
    have m2 : n2 ≤ 100000 := by omega
    clear h1 h2 hb3 l1 l2
    generalize zOf x1 (val d1) = a at *
    generalize zOf x2 (val d2) = b at *
    obtain ⟨T, HT⟩ : ∃ v, Hid (decTx a b N = v) := ⟨_, rfl⟩
    obtain ⟨E, HE⟩ : ∃ v, Hid (decEr N = v) := ⟨_, rfl⟩
    have HH := Lib.hid H0
    clear H0
    go_enter Tryz.func4, Tryz.ntmps4
    go_wp2_with (first
      | (go_at_call 5; (with_reducible refine hlight.mono ?_); rintro e w0 ⟨rfl, g0⟩; have K0 := HH.out.call g0; clear HH; obtain ⟨⟨p0, p1, p2, p3⟩, _⟩ := K0.facts; have i1 := K0.ints.2.1.i; have i2 := K0.ints.1.i)
      | (go_at_call 13; (with_reducible refine (pDecimal_at i1 i2 y1 y2 N).mono ?_); rw [HT.out, HE.out]; rintro e w1 ⟨rfl, g1⟩; have K1 := K0.call g1; clear p0 p1 p2 p3; obtain ⟨⟨p0, p1, p2, p3⟩, _⟩ := K1.facts; have j1 := K1.ints.2.1.i; have j2 := K1.ints.1.i)
      | (go_at_call 14; (with_reducible refine (rDecimal_at j1 j2 y1 y2 m1 m2 N).mono ?_); rw [HT.out, HE.out]; rintro e w2 ⟨rfl, g2⟩; have K2 := K1.call g2)
      | (go_at_call 6; (with_reducible refine (awake2_any _).mono ?_); rintro e w3 ⟨rfl, g3⟩; have K3 := K2.call g3)
      | fail)
    go_ret
    exact ⟨rfl, K3.below⟩
  · have hlight := hlight false (by simpa using hl)
    go_enter Tryz.func4, Tryz.ntmps4
    go_wp2_with (first
      | (go_at_call 5; (with_reducible refine hlight.mono ?_); rintro e w0 ⟨rfl, g0⟩)
      | (go_at_call 6; (with_reducible refine (awake2_any _).mono ?_); rintro e w1 ⟨rfl, hb1⟩))
    go_ret
    exact ⟨rfl, bcall (bcall hb3 g0) hb1⟩
end Go.Proofs.YtkhficmehjglmaaGreat

