/-
  The walk of the law RationalRounding.
-/
import Derived.Test.YtplmfdgdbolcaaaLightF2
import Derived.Test.YtplmfdgdbolcaaaArithF
import Derived.Test.YtplmfdgdbolcaaaRound4
set_option linter.unusedVariables false
set_option linter.unusedSimpArgs false
namespace Go.Proofs.Ytplmfdgdbolcaaa
open Go.RowKit

set_option maxHeartbeats 16000000 in
set_option maxRecDepth 100000 in
theorem round_law (x1 x2 : Bool) (A1 A2 : Option Addr) (n1 c1 n2 c2 : Nat) (d1 d2 : List Nat) (w : World) (h1 : InP w A1 n1 c1 d1) (h2 : InP w A2 n2 c2 d2) :
    Calls Try.prog 8 #[.agg #[.bool x1, .slice A1 n1 c1, .bool x2, .slice A2 n2 c2]] w (RetT1 w) := by
  have hb3 : Below w.heap.size w ((w.alloc (.cells #[.bool x1, .slice A1 n1 c1, .bool x2, .slice A2 n2 c2] 42)).alloc (.cells #[.bool x1, .slice A1 n1 c1, .bool x2, .slice A2 n2 c2] 42)) := bnew2 _ _ _
  have hlight := fun b hb => lightF1 (w := (w.alloc (.cells #[.bool x1, .slice A1 n1 c1, .bool x2, .slice A2 n2 c2] 42))) (s0 := x1) (t0 := x2) (A0 := A1) (B0 := A2) (n0 := n1) (c0 := c1) (m0 := n2) (d0 := c2) (g := w.heap.size + 1) (by simp) h1.2.2.2 h2.2.2.2 b hb
  by_cases hl : (n1 ≤ 12 ∧ n2 ≤ 12)
  · have hlight := hlight true (by simpa using hl)
    obtain ⟨l1, l2⟩ := hl
    have H0 := ((((St.start w).addI (h1.i x1 l1)).addI (h2.i x2 l2)).new 42 (Plains.four x1 A1 n1 c1 x2 A2 n2 c2)).alloc (.cells #[.bool x1, .slice A1 n1 c1, .bool x2, .slice A2 n2 c2] 42)
    (try simp only [World.size_alloc] at H0)
    have y1 := h1.z x1 l1
    have y2 := h2.z x2 l2
    clear h1 h2 hb3 l1 l2
    generalize zOf x1 (val d1) = a at *
    generalize zOf x2 (val d2) = b at *
    have za2 : Sz a 200 := y1.mono (by decide)
    have zb2 : Sz b 200 := y2.mono (by decide)
    have za9 : Sz a 900 := y1.mono (by decide)
    have zb9 : Sz b 900 := y2.mono (by decide)
    have za19 : Sz a 1900 := y1.mono (by decide)
    have zb19 : Sz b 1900 := y2.mono (by decide)
    clear y1 y2
    obtain ⟨q, HQ⟩ : ∃ v, Hid (dmQ a b = v) := ⟨_, rfl⟩
    obtain ⟨u, HU⟩ : ∃ v, Hid (-dmQ (-a) b = v) := ⟨_, rfl⟩
    obtain ⟨z, HZ⟩ : ∃ v, Hid (rdV a b = v) := ⟨_, rfl⟩
    have HH := Lib.hid H0
    clear H0
    go_enter Try.func8, Try.ntmps8
    go_upto_region 3 with (first
      | (go_at_call 31; (with_reducible refine hlight.mono ?_); rintro e w0 ⟨rfl, g0⟩; have K0 := HH.out.call g0; clear HH)
      | fail)
    have KL := K0.drew
    clear K0
    obtain ⟨⟨p0, p1, p2, p3⟩, _⟩ := KL.facts
    have i1 := KL.ints.2.1.i
    have i2 := KL.ints.1.i
    go_region_held3 (fun w' => w'.cell? ⟨w.heap.size, 0, none⟩ = some (.bool x1) ∧ w'.cell? ⟨w.heap.size, 1, none⟩ = some (.slice A1 n1 c1) ∧ w'.cell? ⟨w.heap.size, 2, none⟩ = some (.bool x2) ∧ w'.cell? ⟨w.heap.size, 3, none⟩ = some (.slice A2 n2 c2))
      (go_keep)
      (first
        | (go_at_call 56; (with_reducible refine (sameInt_at e1 e2 rfl).mono ?_); rintro e wn ⟨rfl, gn⟩; have KM := KL.call gn; clear KL; have KL := KM; clear KM; clear p0 p1 p2 p3; obtain ⟨⟨p0, p1, p2, p3⟩, _⟩ := KL.facts; replace i1 := i1.call gn; replace i2 := i2.call gn)
        | (go_at_call 57; (with_reducible refine (floor_at i1 i2).mono ?_); rw [HQ.out]; rintro e wn ⟨E1, l1, k1, rfl, b1, b2, b3, gn⟩; have e1 := CanAt.mk_ b1 b2 b3; clear b1 b2 b3; have KM := KL.call gn; clear KL; have KL := KM; clear KM; clear p0 p1 p2 p3; obtain ⟨⟨p0, p1, p2, p3⟩, _⟩ := KL.facts; replace i1 := i1.call gn; replace i2 := i2.call gn)
        | (go_at_call 58; (with_reducible refine (rfloor_at i1 i2 za19 zb19).mono ?_); rw [HQ.out]; rintro e wn ⟨E2, l2, k2, rfl, b1, b2, b3, gn⟩; have e2 := CanAt.mk_ b1 b2 b3; clear b1 b2 b3; have KM := KL.call gn; clear KL; have KL := KM; clear KM; clear p0 p1 p2 p3; obtain ⟨⟨p0, p1, p2, p3⟩, _⟩ := KL.facts; replace i1 := i1.call gn; replace i2 := i2.call gn; replace e1 := e1.call gn)
        | (go_at_call 59; (with_reducible refine (ceil_at i1 i2 za9 zb9).mono ?_); rw [HU.out]; rintro e wn ⟨E1, l1, k1, rfl, b1, b2, b3, gn⟩; have e1 := CanAt.mk_ b1 b2 b3; clear b1 b2 b3; have KM := KL.call gn; clear KL; have KL := KM; clear KM; clear p0 p1 p2 p3; obtain ⟨⟨p0, p1, p2, p3⟩, _⟩ := KL.facts; replace i1 := i1.call gn; replace i2 := i2.call gn)
        | (go_at_call 60; (with_reducible refine (rceil_at i1 i2 za9 zb9).mono ?_); rw [HU.out]; rintro e wn ⟨E2, l2, k2, rfl, b1, b2, b3, gn⟩; have e2 := CanAt.mk_ b1 b2 b3; clear b1 b2 b3; have KM := KL.call gn; clear KL; have KL := KM; clear KM; clear p0 p1 p2 p3; obtain ⟨⟨p0, p1, p2, p3⟩, _⟩ := KL.facts; replace i1 := i1.call gn; replace i2 := i2.call gn; replace e1 := e1.call gn)
        | (go_at_call 61; (with_reducible refine (round_at i1 i2 za9 zb9).mono ?_); rw [HZ.out]; rintro e wn ⟨E1, l1, k1, rfl, b1, b2, b3, gn⟩; have e1 := CanAt.mk_ b1 b2 b3; clear b1 b2 b3; have KM := KL.call gn; clear KL; have KL := KM; clear KM; clear p0 p1 p2 p3; obtain ⟨⟨p0, p1, p2, p3⟩, _⟩ := KL.facts; replace i1 := i1.call gn; replace i2 := i2.call gn)
        | (go_at_call 62; (with_reducible refine (rround_at i1 i2 za2 zb2).mono ?_); rw [HZ.out]; rintro e wn ⟨E2, l2, k2, rfl, b1, b2, b3, gn⟩; have e2 := CanAt.mk_ b1 b2 b3; clear b1 b2 b3; have KM := KL.call gn; clear KL; have KL := KM; clear KM; clear p0 p1 p2 p3; obtain ⟨⟨p0, p1, p2, p3⟩, _⟩ := KL.facts; replace i1 := i1.call gn; replace i2 := i2.call gn; replace e1 := e1.call gn)
        | (go_at_call 32; (with_reducible refine (awake2_any _).mono ?_); rintro e wn ⟨rfl, gn⟩; have KM := KL.call gn; clear KL; have KL := KM; clear KM; clear p0 p1 p2 p3; obtain ⟨⟨p0, p1, p2, p3⟩, _⟩ := KL.facts; replace i1 := i1.call gn; replace i2 := i2.call gn)
        | fail)
    all_goals (go_wp2; go_ret; exact ⟨rfl, KL.below⟩)
  · have hlight := hlight false (by simpa using hl)
    go_enter Try.func8, Try.ntmps8
    go_wp2_with (first
      | (go_at_call 31; (with_reducible refine hlight.mono ?_); rintro e w0 ⟨rfl, g0⟩)
      | (go_at_call 32; (with_reducible refine (awake2_any _).mono ?_); rintro e w1 ⟨rfl, hb1⟩))
    go_ret
    exact ⟨rfl, bcall (bcall hb3 g0) hb1⟩
end Go.Proofs.Ytplmfdgdbolcaaa
